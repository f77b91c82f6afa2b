/- Lemmas. -/
import Derived.Test.YtimcfdnbpkiniaaGreatDoorM17
set_option maxHeartbeats 4000000
set_option maxRecDepth 100000
namespace Go.Proofs.YtimcfdnbpkiniaaGreatDoor
open Go.Proofs.Tryz
open Go.RowKit
variable{w w':World}{P:Nat->Prop}{E:List (ByteArray×Int)}{b cap g gp j k:Nat}{T:List (bS×Value)}{h:Array Value}{n:bS}{v:Value}{B X l:List Int}{a:Option Addr}{ps:List (Int×Int)}{own:Nat->List Nat}
def kZ (n:bS) (E:List (ByteArray×Int)):bS:={ n with S:=(E.length:Int),E:=E }
theorem Q5 (n:bS)(v u:Value)(E:List (ByteArray×Int))(h:n.B.length=13)(m:Int)(J:m=(E.length:Int)):((aL n v).setIfInBounds 17 u).setIfInBounds 3 (.int .i64 m)=aL (kZ n E) u:=by
 subst J;have z:aL n v=(([.int .i64 n.F,.int .i64 n.K,.int .i64 n.L,.int .i64 n.S]:List Value)++(zs n.B++[v])).toArray:=rfl;have G:(([.int .i64 n.F,.int .i64 n.K,.int .i64 n.L,.int .i64 n.S]:List Value)++(zs n.B++[v])).set 17 u=([.int .i64 n.F,.int .i64 n.K,.int .i64 n.L,.int .i64 n.S]:List Value)++(zs n.B++[u]):=by
  rw[dU _ _ (by simp),dU _ _ (by rw[eT,h];simp),eT,h];rfl
 rw[z,ag,ag,G];rfl
theorem J5 (n:bS)(v:Value)(hB:n.B.length=13){a:Option Addr}{c:Nat}(E:List (ByteArray×Int))(m:Nat)(hm:m=E.length):
  Calls prog 200 #[aL n v,.slice a m c] w λe w'=>e=aL (kZ n E) (.slice a m c)/\ay [] w w':=by
 have hl:(aL n v).size=18:=by rw[aL,bP,gJ,hB]
 have U:(aL bY (.slice none 0 0)).size=18:=rfl;have aa:=fT v hB;have G:=Q5 n v (.slice a m c) E hB (m:Int) (by omega);have z:∀u∈mQ (kZ n E) (.slice a m c),u.oneCell'=true:=kR rfl;have af:=dC;have ac:aL (kZ n E) (.slice a m c)=(mQ (kZ n E) (.slice a m c)).toArray:=rfl;have h:(mQ (kZ n E) (.slice a m c)).length=18:=by rw[gJ];show n.B.length+5=18;omega
 generalize aL bY (.slice none 0 0)=Z0,aL n v=Z,aL (kZ n E) (.slice a m c)=Z1,mQ (kZ n E) (.slice a m c)=J at *;subst ac;have V:=(bc.new w ((Z.setIfInBounds 17 (.slice a m c)).setIfInBounds 3 (.int .i64 (m:Int))) 75).alloc (.cells Z0 75);have rQ:=bc.new (w.alloc (.cells ((Z.setIfInBounds 17 (.slice a m c)).setIfInBounds 3 (.int .i64 (m:Int))) 75)) Z0 75;rw[show(w.alloc (.cells ((Z.setIfInBounds 17 (.slice a m c)).setIfInBounds 3 (.int .i64 (m:Int))) 75)).heap.size=w.heap.size+1 by simp] at rQ;have W:ay [] w ((w.alloc (.cells ((Z.setIfInBounds 17 (.slice a m c)).setIfInBounds 3 (.int .i64 (m:Int))) 75)).alloc (.cells Z0 75)):=((ay.refl [] w).alloc _).alloc _;have mO:Hid ((loadVar 75 w.heap.size).run prog ((w.alloc (.cells ((Z.setIfInBounds 17 (.slice a m c)).setIfInBounds 3 (.int .i64 (m:Int))) 75)).alloc (.cells Z0 75))= .ok (.agg J.toArray) ((w.alloc (.cells ((Z.setIfInBounds 17 (.slice a m c)).setIfInBounds 3 (.int .i64 (m:Int))) 75)).alloc (.cells Z0 75))):=
  bX _ 0 J underlying75 rfl (by rw[h];exact iV) λj _=>by rw[V.cell,G,bp,aG]
 obtain⟨w5,q1,q2,q3⟩:=bE (P:= prog) (ty:= 75) (cs:=J) (by rw[h];exact iV) rQ (by rw[h];exact U) z;have HS:=ar q1;have JL:Hid ((loadVar 75 (w.heap.size+1:Nat)).run prog w5= .ok (.agg J.toArray) w5):=
  bX _ 0 J underlying75 rfl (by rw[h];exact iV) λj _=>by rw[q2.cell,bp,aG]
 have jD:Hid (ay [] w w5):=W.trans q3 (by intro x hx;rw[au] at hx;omega);have Va:17<Z.size:=by omega
 have ae:3<Z.size:=by omega
 clear V rQ W aa G z hl U q1 q2 q3 hm hB h;go_in;go_wp2_with(with_reducible first|refine gL 75 mO.out ?_|refine gS 75 HS.out ?_);exact aH (bu results200 rfl JL.out) rfl ⟨rfl,jD.out⟩
def vA (w:World) (n:bS) (L:List (ByteArray×Int)) (e:Ending) (w':World):Prop:=∃u g,e=aL (kZ n L) u/\bD w' u g L/\w.heap.size<=g/\ay [] w w'
theorem ajE (w:World)(x:ByteArray)(i:Int)(g T:Nat)(h:bc w g #[.string x,i] T):bD w (.slice g 1 1) g [(x,i)]:=
 ⟨_,1,rfl,aI _,by unfold maxLen;omega,λ_=>⟨h.lt,0,rfl,λj z=>by
  obtain rfl:j=0:=by simpa using z
  exact⟨by rw[h.cell];rfl,by rw[h.cell];rfl⟩⟩⟩
theorem ahk (G:P 0)(h:P 1)(z:P 2):∀j,j<3->P j:=λj J=>by
 rcases (show j=0\/j=1\/j=2 by omega) with rfl|rfl|rfl
 ·exact G
 ·exact h
 ·exact z
theorem ahl (z:P 0)(h:P 1):∀j,j<2->P j:=λj G=>by
 rcases (show j=0\/j=1 by omega) with rfl|rfl
 ·exact z
 ·exact h
theorem iH.newLen{A M B:List (ByteArray×Int)}{nm:ByteArray}(h:iH E A M B nm)(i:Int):(A++([(nm,i)]++B)).length<=E.length+1/\(A++B).length<=E.length:=by
 rw[h.eq];simp only[aC,cA,cD];omega
theorem Y5 (n:bS){v:Value}{g:Nat}{A M B:List (ByteArray×Int)}{nm:ByteArray}(i:Int)(hB:n.B.length=13)(hE:bD w v g n.E)(hs:iH n.E A M B nm)(Y1:n.E.length<=500):
  Calls prog 164 #[aL n v,.agg #[.string nm,i]] w (vA w n (A++([(nm,i)]++B))):=by
 have L8:=hs.newLen i;obtain⟨L,hL⟩:∃L,A++([(nm,i)]++B)=L:=⟨_,rfl⟩;rw[hL] at L8 ⊢;have HL:=ar hL;have aB:(aL bY (.slice none 0 0)).size=18:=rfl;have aX:=dC;have ae:=((bc.new w (aL n v) 75).alloc (.cells #[.string nm,i] 99)).alloc (.cells (aL bY (.slice none 0 0)) 75);have af:=(bc.new (w.alloc (.cells (aL n v) 75)) #[.string nm,i] 99).alloc (.cells (aL bY (.slice none 0 0)) 75);have ac:=bc.new ((w.alloc (.cells (aL n v) 75)).alloc (.cells #[.string nm,i] 99)) (aL bY (.slice none 0 0)) 75;rw[show(w.alloc (.cells (aL n v) 75)).heap.size=w.heap.size+1 by simp] at af;rw[show((w.alloc (.cells (aL n v) 75)).alloc (.cells #[.string nm,i] 99)).heap.size=w.heap.size+2 by simp] at ac;have ak:ay [] w (((w.alloc (.cells (aL n v) 75)).alloc (.cells #[.string nm,i] 99)).alloc (.cells (aL bY (.slice none 0 0)) 75)):=(((ay.refl [] w).alloc _).alloc _).alloc _;have aM:=J2 (hE.keep ak) hs (by omega);have Ih:Hid (L.length<=1000):=by show _<=_;omega
 have aD:=fT v hB;have aa:∀u:Value,u.oneCell'=true->∀x∈mQ (kZ n L) u,x.oneCell'=true:=λu hu=>kR hu
 have Y6:=ar aa;have aK:Hid (∀U a c,Calls prog 200 #[aL n v,.slice a L.length c] U λe w'=>e=aL (kZ n L) (.slice a L.length c)/\ay [] U w'):=λU a c=>J5 n v hB L _ rfl
 have aO:∀u,(mQ (kZ n L) u).length=18:=λu=>by rw[gJ];show n.B.length+5=18;omega
 have Eu:=ar aO;obtain⟨a,cap,rfl,aP,ax,-⟩:=hE.open;have aF:=aD.f5;have aU:Hid (∀U,bc U w.heap.size (aL n (.slice a n.E.length cap)) 75->(loadVar 75 w.heap.size).run prog U= .ok (.agg (aL n (.slice a n.E.length cap))) U):=λU hb=>bZ hb hB
 generalize aL bY (.slice none 0 0)=Z0,aL n (.slice a n.E.length cap)=Z at *;have aV:(((w.alloc (.cells Z 75)).alloc (.cells #[.string nm,i] 99)).alloc (.cells Z0 75)).cell? ⟨w.heap.size,17,none⟩=some (.slice a n.E.length cap):=by rw[ae.cell];exact aF
 obtain⟨aI,pO,zC,oD,fC,H0⟩:=hh6 aM ae af ac ak aB;clear aM ae af ac ak aD aa aO aB hE hs L8 Y1 aF hB aP ax hL;go_in;go_wp2_with fail;refine aI.out.mono ?_;rintro e G ⟨x,y,rfl,V,hy,J⟩;obtain⟨a1,c1,aW,-,-,-⟩:=V.open;obtain⟨a2,c2,aR,-,-,-⟩:=hy.open;subst aW aR;have aC:w.heap.size+3<=G.heap.size:=by have :=J.size;simp at this;omega
 obtain⟨aN,pO,zC,oD,og,HX,HY⟩:=hh7 aC (pO.out.keep J) (zC.out.keep J) (oD.out.keep J) (fC.out.trans' J) (V.keep J) (hy.keep J);clear V hy J aI aC aV;go_wp2_with fail;refine kg (S:=λU=>ay [w.heap.size+2] G U) [0,1,2,4] [3,5,6,7,8] (l:=[_,_,_,_]) (tl:=[_,_,_,_,_]) (by kernel_rfl) (by kernel_rfl) (by kernel_rfl) (by kernel_rfl) rfl rfl rfl rfl rfl (λd _ _ _ _ h=>by cases d<;>exact h) (ay.refl _ _).drew ?_;refine cT.cons _ (YieldsIf.load rfl 75 (.tmp 2) rfl _ rfl λU V=>aU.out U (pO.out.keep V)) ?_;simp only[Act.put,ag];refine cT.cons ?_ (YieldsIf.val rfl ?h) ?_;(case h=>(intro U V;clear V;go_simp;rfl));simp only[Act.put];refine cT.cons _ (YieldsIf.load rfl 99 (.tmp 3) rfl _ rfl λU V=>tv (by rw[(zC.out.keep V).cell];rfl) (by rw[(zC.out.keep V).cell];rfl)) ?_;simp only[Act.put];refine cT.cons ?_ (YieldsIf.val rfl ?h) ?_;(case h=>(intro U V;clear V;go_simp;rfl));simp only[Act.put];refine cT.done ?_;unfold gF;go_wp2_with fail;refine⟨((ay.refl _ _).drew).alloc _,?_⟩;unfold gF;go_wp2_with fail;refine⟨(((ay.refl _ _).drew).alloc _).alloc _,?_⟩;unfold gF;have kr:ay [] G (((G.alloc (.cells #[.string nm,i] 99)).alloc (.cells #[.slice a1 A.length c1,.slice G.heap.size 1 1,.slice a2 B.length c2] 30)).drew):=(((ay.refl _ _).alloc _).alloc _).drew;have rQ:bc (((G.alloc (.cells #[.string nm,i] 99)).alloc (.cells #[.slice a1 A.length c1,.slice G.heap.size 1 1,.slice a2 B.length c2] 30)).drew) G.heap.size #[.string nm,i] 99 :=((bc.new G _ _).alloc _).drew;have tX:bc (((G.alloc (.cells #[.string nm,i] 99)).alloc (.cells #[.slice a1 A.length c1,.slice G.heap.size 1 1,.slice a2 B.length c2] 30)).drew) (G.heap.size+1) ([.slice a1 A.length c1,.slice G.heap.size 1 1,.slice a2 B.length c2]:List Value).toArray 30 :=by
  have :=(bc.new (G.alloc (.cells #[.string nm,i] 99)) #[.slice a1 A.length c1,.slice G.heap.size 1 1,.slice a2 B.length c2] 30).drew;rwa[show(G.alloc (.cells #[.string nm,i] 99)).heap.size=G.heap.size+1 by simp] at this
 have aj:[A,[(nm,i)],B].flatten=L:=by rw[<-HL.out];simp
 have aJ:=HX.out.keep kr;have av:=HY.out.keep kr;have aQ:=ajE _ nm i _ _ rQ;have W:=GW (Ls:=[A,[(nm,i)],B]) tX rfl (by simp)
  (ahk (P:=λj=>∃g,bD (((G.alloc (.cells #[.string nm,i] 99)).alloc (.cells #[.slice a1 A.length c1,.slice G.heap.size 1 1,.slice a2 B.length c2] 30)).drew) (([.slice a1 A.length c1,.slice G.heap.size 1 1,.slice a2 B.length c2]:List Value).getD j (.slice none 0 0)) g ([A,[(nm,i)],B].getD j [])) ⟨g,aJ⟩ ⟨_,aQ⟩ ⟨g,av⟩)
  (by rw[aj];exact Ih.out)
 rw[aj] at W;obtain⟨NA,pU⟩:=hh2 W kr;clear W kr rQ tX aj aJ av aQ;go_wp2_with fail;refine NA.out.mono ?_;rintro e w6 ⟨u,gu,rfl,hu,aA,jE⟩;obtain⟨a6,c6,aS,-,-,-⟩:=hu.open;subst aS;obtain⟨rX,HU⟩:=hh2 (pU.out.trans' jE) hu;have az:Hid (G.heap.size<=gu):=cL pU.out.size aA;clear hu aA jE NA pU;obtain⟨HV,Y7,Q6⟩:=hh3 (aK.out w6 a6 c6) (Y6.out (.slice a6 L.length c6) rfl) (Eu.out (.slice a6 L.length c6));have Su:Hid (aL (kZ n L) (.slice a6 L.length c6)=(mQ (kZ n L) (.slice a6 L.length c6)).toArray):=rfl;have M7:Hid (∀w',bD w' (.slice a6 L.length c6) gu L->ay [] w w'->vA w n L (.returned (aL (kZ n L) (.slice a6 L.length c6))) w'):=λw' h1 h2=>⟨_,gu,rfl,h1,by have :=az.out;have :=aN.out;omega,h2⟩
 clear Y6 Eu aK;generalize aL (kZ n L) (.slice a6 L.length c6)=Z6,mQ (kZ n L) (.slice a6 L.length c6)=ZL at *;generalize L.length=m at *;go_wp2_with fail;refine⟨rX.out.mono,?_⟩;unfold gF;go_wp2_with fail;refine Rr HV.out λw7 xZ=> ?_;obtain⟨JV,aT⟩:=hh2 (rX.out.trans' xZ) (HU.out.keep xZ);obtain⟨w8,q1,q2,q3⟩:=bE (P:= prog) (ty:= 75) (cs:=ZL) (by rw[Q6.out];exact iV) (oD.out.keep JV.out) (by rw[Q6.out];exact H0.out) Y7.out;rw[<-Su.out] at q1;have HS:=ar q1;have D5:Hid ((loadVar 75 (w.heap.size+2:Nat)).run prog w8= .ok (.agg Z6) w8):=by
  rw[Su.out];exact bX _ 0 ZL underlying75 rfl (by rw[Q6.out];exact iV) λj _=>by rw[q2.cell,bp,aG]
 have PB:=ar ((JV.out.mono (l':=[w.heap.size+2]) (by simp)).trans' q3);have HF:=ar (M7.out w8 (aT.out.keep q3 (by have :=az.out;have :=aN.out;intro _ h;rw[au] at h;omega)) (og.out.trans PB.out (by intro z hz;rw[au] at hz;omega)));clear q1 q2 q3 xZ HV M7;go_wp2_with fail;refine⟨JV.out.mono,?_⟩;unfold gF;refine qa rfl 75 (.tmp 4) (.tmp 22) rfl ⟨w.heap.size+2,0,none⟩ rfl (.agg Z6) rfl w8 HS.out ?_;go_wp2_with fail;refine⟨PB.out,?_⟩;unfold gF;go_wp2;exact aH (bu results164 rfl D5.out) rfl HF.out
theorem cr{T:Nat}(U:bc w g h T)(G:h.size=18)(z:n.B.length=13)(J:v.oneCell'=true):
  ∃w',(storeVar 75 g (.agg (aL n v))).run prog w= .ok () w'/\bc w' g (aL n v) T/\ay [g] w w':=
 bE (P:= prog) (ty:= 75) (cs:=mQ n v) (by rw[gJ,z];exact iV) U (by rw[G,gJ,z]) (kR J)
theorem bD.one(h:bD w v g E):v.oneCell'=true:=by
 obtain⟨a,cap,rfl,-⟩:=h;rfl
theorem S4 (h:j<l.length):(zs l)[j]? =some (.int .i64 (l.getD j 0)):=gI h
def J6 (w:World) (h:Prop) (e:Ending) (w':World):Prop:=∃r:Int,e=r/\w=w'/\(0<=r↔h)
theorem Y8 (x:Int)(hR:Reads w (.slice a l.length cap) g (zs l)):
  Calls prog 198 #[.slice a l.length cap,x] w (J6 w (x∈l)):=by
 have HC:Hid (∀j,j<l.length->∃off,a=some ⟨g,off,none⟩/\w.cell? ⟨g,off+j,none⟩=some (.int .i64 (l.getD j 0))):=λj G=>by
  obtain⟨a',V,hv,-,-,h3⟩:=hR
  injection hv with e1 e2 e3
  have ac:zs l≠[]:=λe=>by have :=cP List.length e;rw[eT,cD] at this;omega
  obtain⟨-,off,h5,h6⟩:=h3 ac;exact⟨off,by rw[e1];exact h5,by rw[h6 j (by rw[eT];exact G),S4 G]⟩
 have aa:l.length<=maxLen:=by
  obtain⟨a',V,hv,h1,h2,-⟩:=hR;rw[eT] at h1;omega
 have W:Hid (∀j,j<l.length->l.getD j 0=x->x∈l):=λj G e=>by
  rw[<-e,aj,aD G];exact bM G
 have HN:Hid ((∀j,j<l.length->l.getD j 0≠x)->¬x∈l):=λh hm=>by
  obtain⟨j,G,e⟩:=b9 hm;exact h j G (by rw[aj,aD G];exact e)
 unfold maxLen at aa;clear hR;generalize hm:l.length=m at *;clear hm;have z:Hid (∀r:Int,(0<=r↔x∈l)->J6 w (x∈l) (.returned (r:Int)) w):=λr h=>⟨r,rfl,rfl,h⟩
 generalize ae:(x∈l)=px at *;clear ae;go_in;go_wp2_with fail;go_loopg [8] m (λgh s8 wx=>∃k:Nat,k+gh=m/\s8= .int .i64 (k:Int)/\w=wx/\Hid (∀j,j<k->l.getD j 0≠x))
 case atStart=>exact⟨0,by omega,rfl,rfl,λj G=>by omega⟩
 case round=>
  obtain⟨k,hk,rfl,rfl,U⟩:=hrel;cases gk with
  |zero=>
   obtain rfl:k=m:=by omega
   have HF:=ar (z.out (-1) ⟨λh=>by omega,λh=>absurd h (HN.out U.out)⟩);clear HC W HN U z;go_wp2;go_ret;exact HF.out
  |succ gg=>
   have af:(k:Int)<(m:Int):=by omega
   have cM:(0:Int)<=(k:Int):=by omega
   have FW:k<m:=by omega
   obtain⟨off,rfl,c0⟩:=HC.out k FW;by_cases J:l.getD k 0=x
   ·have HF:=ar (z.out (k:Int) ⟨λ_=>W.out k FW J,λ_=>cM⟩)
    have hb:(x==l.getD k 0)=true:=by rw[J];simp
    clear HC W HN U z J;generalize l.getD k 0=y at *;go_wp2;go_ret;exact HF.out
   ·have mP:Hid (∀j,j<k+1->l.getD j 0≠x):=λj G=>by
     by_cases e:j=k
     ·rw[e];exact J
     ·exact U.out j (by omega)
    have hb:(x==l.getD k 0)=false:=by rw[cg];exact λe=>J e.symm
    clear HC W HN U z J;generalize l.getD k 0=y at *;go_wp2;go_roundg gg;case measure=>omega
    case rel=>exact⟨k+1,by omega,by go_num,rfl,mP.out⟩
theorem NY (x:Int)(z:Reads w (.slice a l.length cap) g (zs l)):
  Calls prog 163 #[.slice a l.length cap,x] w λe w'=>e=(decide (x∈l))/\w=w':=by
 have J:=ar (Y8 x z);clear z;generalize l.length=m at *;go_in;go_wp2_with fail;refine J.out.mono ?_;rintro e w' ⟨r,rfl,rfl,h⟩;have G:=ar h;clear h;go_wp2;go_ret;refine⟨?_,rfl⟩;show Ending.returned (decide (0<=r))=_;rw[decide_eq_decide.2 G.out]
theorem Lu{P:Program}(ah:Nat)(t ty e:TypeId)(i:TypeInfo)(z:Value)(size bytes:Nat)(ht:P.underlying t=some (.slice e))(hi:P.info? e=some i)(hz:i.zero=some z)
  (ac:i.size=size) (ar:i.bytes=bytes) (ay:0<size) (g n cap:Nat) (xs:List Value) (V:w.ownsRow ah e size (.slice g n cap) n xs)
  (a:Addr) (m c:Nat) (G:List Value) (hl:G.length=m*size) (U:∀j u,G[j]? =some u->w.cell? (a.add j)=some u) (h1:∀u∈G,u.oneCell'=true)
  (aj:n+m<=maxLen) (aa:(n+m)*bytes<=140737488355328) {v':Value} {w':World} (hr:(Builtin.append_ #[t,t] ty #[.slice g n cap,.slice (some a) m c]).run P w= .ok v' w'):
  v'.ownBlock=some g\/v'.ownBlock=some w.heap.size:=by
 subst ac;subst ar;have ai:n+m<=9223372036854775807:=by simp only[maxLen] at aj;omega
 have ae:∀j u,xs[j]? =some u->w.cell? ((⟨g,0,none⟩:Addr).add j)=some u:=V.cells (g:=g) rfl;rcases V.2 with ⟨h,-⟩|⟨g',av,af,hv,aA,hg,ax,az,ak,au⟩
 ·cases h
 ·cases hv
  by_cases J:n+m<=cap
  ·have ag:n*i.size+G.length<=af.size:=by rw[hl,ak,<-Nat.add_mul];exact Nat.mul_le_mul_right _ J
   have W:=run_append_room (P:=P) w t ty e i ht hi g n cap af hg a m c G hl U h1 J ag;rw[hr] at W
   injection W with e1 e2
   rw[e1];exact .inl rfl
  ·have W:=run_append_grow (P:=P) w t ty e i z ht hi hz ⟨g,0,none⟩ n cap xs V.1 ae a m c G hl U (by omega) (by omega) (growslice_fits (by omega) aa)
   rw[hr] at W
   injection W with e1 e2
   rw[e1];exact .inr rfl
def dz (w:World) (p:Prop) (e:Ending) (w':World):Prop:=∃r:Bool,e=r/\(r=true↔p)/\ay [] w w'
theorem Ee (w:World):(zeroValue 99).run prog w= .ok (.agg #[.string ⟨#[]⟩,(0:Int)]) w:=by kernel_rfl
theorem Bz{T:Nat}(s:ByteArray)(y:Int)(G:bc w g h T)(J:h.size=2):
  ∃w',(storeVar 99 g (.agg #[.string s,y])).run prog w= .ok () w'/\bc w' g #[.string s,y] T/\ay [g] w w':=
 bE (P:= prog) (ty:= 99) (cs:=[.string s,.int .i64 y]) F4 G (by rw[J];rfl) (by intro u z;simp only[aM,aK,bC] at z;rcases z with rfl|rfl<;>rfl)
theorem Q7 (HG:Hid (∀x wx,ay [] w wx->Calls prog 30 #[b,(x:Int)] wx λe w'=>∃n v g a c cap r,e= .returned (.tuple #[aL n v,.slice a c cap,(r:Int)])/\n.B.length=13/\bD w' v g n.E/\wx.heap.size<=g/\n.E.map (·.2)=oO T x/\ay [] wx w'))(hN:Q0 T)(d i:Int):
  Calls prog 124 #[b,d,i] w (dz w (Reach T d i)):=by
 have nP:Hid (∀R k,rS T d i R k->R.length<=33):=λR k hb=>hb.len hN
 obtain⟨i0,hi,bf,aN,ba⟩:=df Tryz.info_int;have aZ:Hid ((w.alloc (.cells #[d] 3)).ownsRow w.heap.size 3 1 (.slice w.heap.size 1 1) 1 (zs [d])):=
  ⟨rfl,.inr ⟨w.heap.size,1,#[d],rfl,aI _,bc.new w _ _,aI _,by unfold maxLen;omega,rfl,rfl⟩⟩
 have pO:=ar (rS.start T d i);have bN:Hid (∀R k,rS T d i R k->k<=R.length):=λR k V=>V.le
 have Ij:Hid (∀R k x,rS T d i R k->R[k]? =some x->x=i->Reach T d i):=λR k x V h2 h3=>V.found h2 h3
 have Q8:Hid (∀R k,rS T d i R k->k=R.length->¬Reach T d i):=λR k V h2=>V.ended h2
 have aB:Hid (∀R k x y,rS T d i R k->R[k]? =some x->y∈oO T x->y∉R->rS T d i (R++[y]) k/\(R++[y])[k]? =some x):=λR k x y V h2 h3 h4=>V.more h2 h3 h4
 have mV:Hid (∀R k x,rS T d i R k->R[k]? =some x->x≠i->(∀y∈oO T x,y∈R)->rS T d i R (k+1)):=λR k x V h2 h3 h4=>V.next h2 h3 h4
 have aV:Hid (∀r w',(r=true↔Reach T d i)->ay [] w w'->dz w (Reach T d i) (.returned (.bool r)) w'):=λr w' V h2=>⟨r,rfl,V,h2⟩
 have bE:=dC;obtain⟨Z0,CY⟩:∃Z0,aL bY (.slice none 0 0)=Z0:=⟨_,rfl⟩;have K3:Hid (Z0.size=18):=by show _=_;rw[<-CY];rfl
 rw[CY] at bE;have bU:=Ee;clear CY hN;generalize bP:Reach T d i=pR,bz:rS T d i=bI,oO T=sL at *;clear bP bz;go_in;go_wp2_with fail;go_loopg [7,8] 33 (λgh s7 s8 wz=>∃(R:List Int) (k:Nat),s8= .int .i64 (k:Int)/\k+gh=33/\Hid (bI R k/\wz.ownsRow w.heap.size 3 1 s7 R.length (zs R)/\ay [] w wz/\R≠[]))
 case atStart=>exact⟨[d],0,rfl,rfl,pO.out,aZ.out,(ay.refl _ _).alloc _,by simp⟩
 case round=>
  clear aZ pO;obtain⟨R,k,rfl,hk,U⟩:=hrel;obtain⟨gR,ho,aH⟩:=fw.of_row U.out.2.1;have af:R.length≠0:=λe=>U.out.2.2.2 (bg e)
  obtain⟨bk,⟨cR,rfl,aS,bL⟩,W,aU⟩:=ho.cell af;have bt:=nP.out R k U.out.1;have Vr:=(aH af).1;by_cases ai:k<R.length
  ·obtain⟨gg,rfl⟩:∃gg,gk=gg+1:=⟨gk-1,by omega⟩
   have hx:R[k]? =some (R.getD k 0):=by rw[aj,aD ai];rfl
   have c0:wr.cell? ⟨gR,k,none⟩=some (.int .i64 (R.getD k 0)):=by rw[W k (by omega),S4 ai]
   have HX:=ar hx;clear hx W aU ho aH;generalize R.getD k 0=x at *;by_cases K9:x=i
   ·have zL:=ar (Ij.out R k x U.out.1 HX.out K9)
    have jD:=ar U.out.2.2.1;have bA:(x==i)=true:=by rw[K9];simp
    have xa:(k:Int)<(R.length:Int):=by omega
    have cM:(0:Int)<=(k:Int):=by omega
    clear U K9 Ij Q8 aB mV HG nP;generalize R.length=q at *;go_wp2;go_ret;exact aV.out true _ ⟨λ_=>zL.out,λ_=>rfl⟩ jD.out
   ·have bA:(x==i)=false:=by simpa using K9
    have xa:(k:Int)<(R.length:Int):=by omega
    have cM:(0:Int)<=(k:Int):=by omega
    obtain⟨PD,bK⟩:=hh2 (HG.out x wr U.out.2.2.1) K9;clear K9;obtain⟨q,hq⟩:∃q,R.length=q:=⟨_,rfl⟩;have HQ:=ar hq;rw[hq] at xa ai bt af aS;rw[hq];clear hq;go_wp2_with fail;refine PD.out.mono ?_;rintro e w3 ⟨n,v,g,a,c,cap,r,rfl,hB,hE,hg,bl,av⟩;have bj:=U.out.2.2.1;have bC:=av.size;obtain⟨an,cn,hv,bQ,Uo,-⟩:=hE.open;subst hv;obtain⟨w4,p1,p2,p3⟩:=cr (n:=n) (v:= .slice an n.E.length cn) (bc.new w3 Z0 75) K3.out hB rfl;have ag:ay [] w3 w4:=((ay.refl [] w3).alloc _).trans p3 (by intro x hx;rw[au] at hx;omega);have bG:=ag.size;have aX:w4.cell? ⟨w3.heap.size,17,none⟩=some (.slice an n.E.length cn):=by rw[p2.cell];exact(fT _ hB).f5
    have tY:=ar p1;have ae:=U.out.2.1;rw[HQ.out] at ae;obtain⟨mZ,bh,qB⟩:=hh3 (ey (ey ae av (by simp)) ag (by simp)) (hE.keep ag) ((bj.trans' av).trans' ag);have UL:Hid (gR<wr.heap.size/\wr.heap.size<=g/\gR<w4.heap.size/\w.heap.size<=gR):=⟨bk,hg,by omega,Vr⟩;obtain⟨M0,bn⟩:=hh2 bl U.out.1;have bF:n.E.length<=9223372036854775807:=by unfold maxLen at Uo;omega
    clear p1 p2 p3 av ag hE hg bl U bj bC bG ae PD bk Vr Uo bL aS;generalize aL n (.slice an n.E.length cn)=ZN at *;obtain⟨mE,hm⟩:∃mE,n.E.length=mE:=⟨_,rfl⟩;have ak:=ar hm;rw[hm] at aX bh bF;clear hm;go_wp2_with(with_reducible refine gS 75 tY.out ?_);clear aX;go_loopg [7,41] mE (λgh s7 s41 wz=>∃(G:List Int) (j:Nat),s41= .int .i64 (j:Int)/\j+gh=mE/\Hid (bI G k/\G[k]? =some x/\(∀t,t<j->jq n.E t∈G)/\wz.ownsRow w.heap.size 3 1 s7 G.length (zs G)/\ay [] w wz/\ay [gR] w4 wz/\(∀kk,s7.ownBlock=some kk->kk=gR\/w4.heap.size<=kk)/\G≠[]))
    case atStart=>exact⟨R,0,rfl,by omega,bn.out,HX.out,(λt ht=>by omega),(by rw[HQ.out];exact mZ.out),qB.out,ay.refl _ _,(λkk e=>by simp[Value.ownBlock] at e;exact .inl e.symm),(λe=>af (by rw[<-HQ.out,e];rfl))⟩
    case round=>
     clear mZ bn ai xa af;obtain⟨G,j,rfl,hj,U⟩:=hrel;obtain⟨q1,q2,q3,q4,q5,q6,q7,q8⟩:=U.out;have bJ:=nP.out _ _ q1;cases gk with
     |zero=>
      obtain rfl:j=mE:=by omega
      have qN:Hid (bI G (k+1)):=mV.out G k x q1 q2 bK.out (λy hy=>by
       rw[<-M0.out] at hy;obtain⟨t,ht,e⟩:=b9 hy;rw[b7] at ht;have :=q3 t (by rw[<-ak.out];exact ht);rw[iN] at e;rwa[show jq n.E t=y by rw[<-e];simp[jq,ht]] at this)
      have Qr:=ar (And.intro q4 (And.intro q5 q8));clear U q1 q2 q3 q4 q5 q6 q7 q8;go_wp2;go_roundg gg;case measure=>omega
      case rel=>exact⟨G,k+1,by go_num,by omega,qN.out,Qr.out.1,Qr.out.2.1,Qr.out.2.2⟩
     |succ g2=>
      have ah:j<mE:=by omega
      have ES:(j:Int)<(mE:Int):=by omega
      have Co:(0:Int)<=(j:Int):=by omega
      obtain⟨J,Mb,bO⟩:=fw.of_row q4;have bw:G.length≠0:=λe=>q8 (bg e)
      obtain⟨Ql,⟨aG,bB,bT,aY⟩,-,-⟩:=Mb.cell bw;subst bB;have aA:=bh.out;rw[<-ak.out] at aA ah;obtain⟨ax,cx,br,WS,bv,bb⟩:=aA.open
      injection br with e1 e2 e3
      subst e1 e3;obtain⟨aJ,off,rfl,d1,d2⟩:=bb.out j ah;rw[ak.out] at ah;have Gj:g∉[gR]:=by have :=UL.out;rw[au];omega
      have ac:Hid ((loadVar 99 ⟨g,off+j*2,none⟩).run prog wr= .ok (.agg #[.string (eY n.E j),(jq n.E j:Int)]) wr):=
       tv ((aO (w:=w4) (a:=⟨g,off+j*2,none⟩) (q6.block g aJ Gj)).trans d1) ((aO (w:=w4) (a:=⟨g,off+j*2+1,none⟩) (q6.block g aJ Gj)).trans d2)
      have aQ:jq n.E j∈sL x:=by
       rw[<-M0.out];have V:j<n.E.length:=by rw[ak.out];exact ah
       refine bH.2 ⟨n.E[j],bM V,?_⟩;simp[jq,V]
      obtain⟨w6,p1,p2,p3⟩:=Bz (eY n.E j) (jq n.E j) (bc.new wr #[.string ⟨#[]⟩,(0:Int)] 99) rfl;have jE:ay [] wr w6:=((ay.refl [] wr).alloc _).trans p3 (by intro x hx;rw[au] at hx;omega);have c1:w6.cell? ⟨wr.heap.size,1,none⟩=some (.int .i64 (jq n.E j)):=by rw[p2.cell];rfl
      have Gl:=ar p1;have aW:=ey q4 jE (by simp);have bp:Hid (Reads w6 (.slice J G.length aG) J (zs G)):=Mb.reads.keep jE;obtain⟨K7,aF⟩:=hh2 (NY (jq n.E j) bp.out) aW;have bu:=jE.size;have Ik:Hid (bI G k/\G[k]? =some x/\(∀t,t<j->jq n.E t∈G)/\ay [] w w6/\ay [gR] w4 w6/\G≠[]/\(J=gR\/w4.heap.size<=J)/\w4.heap.size<=w6.heap.size/\J<w6.heap.size):=⟨q1,q2,q3,q5.trans' jE,q6.trans jE,q8,q7 _ rfl,by have :=q6.size;omega,by omega⟩;have aM:=ar aQ;clear p1 p2 p3 jE q1 q2 q3 q4 q5 q6 q7 q8 aW aQ d1 d2 aJ Gj bb WS bv aA U Mb bO Ql aY bu;obtain⟨y,hy⟩:∃y,jq n.E j=y:=⟨_,rfl⟩;have aK:=ar hy;rw[hy] at ac Gl c1 K7 aM;clear hy;obtain⟨sN,aT⟩:∃sN,eY n.E j=sN:=⟨_,rfl⟩;rw[aT] at ac Gl;clear aT;go_wp2_with(with_reducible first|refine gL 99 ac.out ?_|refine gS 99 Gl.out ?_);refine C' K7.out ?_;by_cases aa:y∈G
      ·have hd:decide (y∈G)=true:=bq aa
       rw[hd];have EP:=ar aa;clear hd aa K7 ac Gl;go_wp2;go_roundg g2;case measure=>omega
       case rel=>exact⟨G,j+1,by go_num,by omega,Ik.out.1,Ik.out.2.1,(λt ht=>by
         by_cases e:t=j
         ·rw[e,aK.out];exact EP.out
         ·exact Ik.out.2.2.1 t (by omega)),aF.out,Ik.out.2.2.2.1,Ik.out.2.2.2.2.1,(λkk e=>by simp[Value.ownBlock] at e;rw[<-e];exact Ik.out.2.2.2.2.2.2.1),Ik.out.2.2.2.2.2.1⟩
      ·have hd:decide (y∈G)=false:=aP aa
       rw[hd];obtain⟨m1,m2⟩:=aB.out G k x y Ik.out.1 Ik.out.2.1 aM.out aa;have L6:=bc.new w6 #[(y:Int)] 3;have bR:G.length<=33:=bJ;obtain⟨v',w8,hr,bo,MV⟩:=lV (P:= prog) 76 3 76 i0 _ 1 8 underlying76 hi bf aN ba rfl (by omega) w.heap.size G.length _ _ (aF.out.alloc (.cells #[(y:Int)] 3)) (some ⟨w6.heap.size,0,none⟩) 1 1 [.int .i64 y] rfl (λ_=>⟨_,rfl,lu _ [_] _ _ rfl⟩) (by simp[Value.oneCell']) (by unfold maxLen;omega) (by omega) (by have V:=UL.out;have h2:=Ik.out;simp;omega);have az:=Lu (P:= prog) w.heap.size 76 76 3 i0 _ 1 8 underlying76 hi bf aN ba (by omega) J G.length aG _ (aF.out.alloc (.cells #[(y:Int)] 3)) ⟨w6.heap.size,0,none⟩ 1 1 [.int .i64 y] rfl (lu _ [_] _ _ rfl) (by simp[Value.oneCell']) (by unfold maxLen;omega) (by omega) hr;have rM:ay [J] w6 w8:=((ay.refl [J] w6).alloc (.cells #[(y:Int)] 3)).trans (ay.of_grown (l:=[J]) MV (λkk e=>by simp[Value.ownBlock] at e;exact .inl (by simp[e]))) (λz hz=> .inl hz);have HN:Hid (bI (G++[y]) k/\(G++[y])[k]? =some x/\(∀t,t<j+1->jq n.E t∈G++[y])/\w8.ownsRow w.heap.size 3 1 v' (G++[y]).length (zs (G++[y]))/\ay [] w w8/\ay [gR] w4 w8/\(∀kk,v'.ownBlock=some kk->kk=gR\/w4.heap.size<=kk)/\G++[y]≠[]):=by
        obtain⟨a1,a2,a3,a4,a5,a6,a7,a8,a9⟩:=Ik.out;have V:=UL.out;refine⟨m1,m2,λt ht=> ?_,?_,a4.trans rM (λz hz=>by rw[au] at hz;right;omega),a5.trans rM (λz hz=>by rw[au] at hz;subst hz;rcases a7 with e|e;exact .inl (by simp[e]);exact .inr e),λkk e=> ?_,by simp⟩
        ·by_cases e:t=j
         ·rw[e,aK.out];simp
         ·have :=a3 t (by omega);simp[this]
        ·rw[aC,Cq]
         exact bo
        ·rcases az with e2|e2
         ·rw[e2] at e;injection e with e;rw[<-e];exact a7
         ·rw[e2] at e;injection e with e;rw[<-e];right;simp;omega
       clear hd aa K7 ac Gl m1 m2 L6 bo MV az rM;generalize G.length=q' at *;go_wp2_with(at_builtin;refine wpList_append_run rfl (.tmp 50) (.tmp 53) 76 76 ?_ (.slice J q' aG) (.slice w6.heap.size 1 1) ?_ ?_ hr ?_;all_goals first|rfl|skip);go_roundg g2;case measure=>omega
       case rel=>exact⟨G++[y],j+1,by go_num,by omega,HN.out⟩
  ·have xa:¬(k:Int)<(R.length:Int):=by omega
   have aR:k=R.length:=by
    have V:=U.out.1;have h2:k<=R.length:=bN.out R k V;omega
   obtain⟨jT,jD⟩:=hh2 (Q8.out R k U.out.1 aR) U.out.2.2.1;clear U Ij Q8 aB mV HG nP aR W aU ho aH;generalize R.length=q at *;go_wp2;go_ret;exact aV.out false _ ⟨(λh=>by cases h),λh=>absurd h jT.out⟩ jD.out
def Za (X:List Int) (b:Int):Bool:=if Iq b=true then dn X b.toNat else true
theorem Vs{W:Nat}(h:eN w b W B ps)(z:In64 (az B ps))(i:Int):
  Calls prog 141 #[b,i] w λe w'=>e=(Za (az B ps) i:Bool)/\w=w':=by
 have G:=ar (A5 i w);unfold Za;cases hi:Iq i
 ·rw[hi] at G
  rw[aA (by simp)];clear hi h;go_in;go_wp2_with(go_at_call 170;refine C' G.out ?_);go_ret;exact⟨rfl,rfl⟩
 ·rw[hi] at G
  rw[aB rfl];obtain⟨h0,h1⟩:=xH.1 hi;clear hi;obtain⟨j,rfl⟩:=cz h0;have J:j<256:=by omega
  rw[aF];obtain⟨V,HM,U⟩:=hh3 (DF j J w) (xI j J w) (nW h ((816+j/64:Nat):Int));rw[yK z (j/64) (by omega)] at U;have ha:=gM (bw (az B ps) (j/64)) (o9 j) (DC z _) (KL j);have he:((((bw (az B ps) (j/64) &&& o9 j:Nat):Int)) != 0)=dn (az B ps) j:=by
   have :=Xx (bw (az B ps) (j/64)) j;unfold dn;rw[Bool.eq_iff_iff,<-this];simp
  generalize bw (az B ps) (j/64) &&& o9 j=y at *;generalize bw (az B ps) (j/64)=x,o9 j=m,dn (az B ps) j=u at *;clear h z;go_in;go_wp2_with fail;refine C' G.out ?_;go_wp2_with fail;refine C' V.out ?_;go_wp2_with fail;refine C' U.out ?_;go_wp2_with fail;refine C' HM.out ?_;go_wp2;go_ret;exact⟨rfl,rfl⟩
structure rF (X:List Int) (T:List (bS×Value)) (own:Nat->List Nat):Prop where
 len:T.length=32
 each:∀i:Nat,i<32->eJ X (i:Int) (nT T i) (own i)\/((∀n o,¬eJ X (i:Int) n o)/\nT T i=bY/\own i=[])
theorem ach (X:List Int):∃T own,rF X T own:=by
 have h:∀i:Nat,∃p:bS×List Nat,eJ X (i:Int) p.1 p.2\/((∀n o,¬eJ X (i:Int) n o)/\p.1=bY/\p.2=[]):=λi=>by
  by_cases h:∃p:bS×List Nat,eJ X (i:Int) p.1 p.2
  ·obtain⟨p,z⟩:=h
   exact⟨p,.inl z⟩
  ·exact⟨(bY,[]),.inr ⟨λn o G=>h ⟨(n,o),G⟩,rfl,rfl⟩⟩
 obtain⟨f,J⟩:=Classical.axiomOfChoice h;refine⟨(List.range 32).map λi=>((f i).1,.slice none 0 0),λi=>(f i).2,by simp,λi U=> ?_⟩;have e:nT ((List.range 32).map λi=>((f i).1,Value.slice none 0 0)) i=(f i).1:=by
  unfold nT;rw[aj,bO,cU U];rfl
 rw[e];exact J i
theorem NZ{i:Int}{o:List Nat}(h:eJ X i n o):n.F=1\/n.F=2:=h.right.1
theorem rF.zero(h:rF X T own){i:Nat}(z:32<=i):nT T i=bY:=by
 unfold nT;rw[aj,aZ (by rw[h.len];omega)];rfl
theorem rF.form(h:rF X T own)(i:Nat):((nT T i).F≠0/\i<32/\eJ X (i:Int) (nT T i) (own i))\/((nT T i).F=0/\nT T i=bY/\(i<32->own i=[]/\∀n o,¬eJ X (i:Int) n o)):=by
 rcases dF i 32 with G|G
 ·rcases h.each i G with z|⟨z,J,U⟩
  ·exact .inl ⟨by have :=NZ z;omega,G,z⟩
  ·exact .inr ⟨by rw[J];rfl,J,λ_=>⟨U,z⟩⟩
 ·have :=h.zero G
  exact .inr ⟨by rw[this];rfl,this,λh=>by omega⟩
theorem rF.tabS(h:rF X T own):aeK T:=λi G=>by
 rcases h.form i with ⟨z,-⟩|⟨-,J,-⟩
 ·exact absurd G z
 ·rw[J];rfl
theorem rF.tabR(h:rF X T own):ahi T:=λi J G=>by
 rcases h.form i with ⟨-,-,z⟩|⟨z,-⟩
 ·exact z.right
 ·omega
theorem rF.tabN(h:rF X T own):Q0 T:=ahj h.tabS h.tabR λi G=>by
 rcases h.form i with ⟨-,-,z⟩|⟨z,-⟩
 ·have :=NZ z;omega
 ·omega
theorem rF.get(h:rF X T own){i:Nat}(hi:i<32){n:bS}{o:List Nat}{r:Int}(hg:Vg X (i:Int) n o r):
  n=nT T i/\o=own i/\((r=0/\(nT T i).F≠0)\/(r=2/\(nT T i).F=0/\dR X (i:Int))\/(r=10/\(nT T i).F=0/\¬dR X (i:Int))):=by
 rcases hg with ⟨-,W,-⟩|⟨z,-,U,g3,g4⟩|⟨z,-,U,g3,g4,g5⟩|⟨z,W⟩
 ·omega
 ·rcases h.form i with ⟨-,-,e⟩|⟨J,V,G⟩
  ·exact absurd U e.notFree
  ·exact⟨by rw[g3,V],by rw[g4,(G hi).1],.inr (.inl ⟨z,J,U⟩)⟩
 ·rcases h.form i with ⟨-,-,e⟩|⟨J,V,G⟩
  ·exact absurd e (g3 _ _)
  ·exact⟨by rw[g4,V],by rw[g5,(G hi).1],.inr (.inr ⟨z,J,U⟩)⟩
 ·rcases h.form i with ⟨e0,-,e⟩|⟨J,V,G⟩
  ·obtain⟨rfl,rfl⟩:=e.uniq W
   exact⟨rfl,rfl,.inl ⟨z,e0⟩⟩
  ·exact absurd W ((G hi).2 _ _)
theorem rF.succ(h:rF X T own){x:Int}{n:bS}{o:List Nat}{r:Int}(J:Vg X x n o r):n.E.map (·.2)=oO T x:=by
 unfold oO;by_cases z:0<=x/\x<32
 ·obtain⟨j,rfl⟩:=cz z.1
  rw[aB z,(h.get (i:=j) (by omega) J).1];rfl
 ·rw[aA z]
  rcases J with ⟨-,-,U,-⟩|⟨-,G,-⟩|⟨-,G,-⟩|⟨-,G⟩
  ·rw[U];rfl
  ·exact absurd G z
  ·exact absurd G z
  ·exact absurd G.rng z
theorem rF.elen(h:rF X T own)(i:Nat):(nT T i).E.length<=24:=by
 rcases h.form i with ⟨-,-,z⟩|⟨-,z,-⟩
 ·exact(jJ z.right).1
 ·rw[z];exact fD _
def zx (E:List (ByteArray×Int)) (j i:Nat):Nat:=(E.take j).countP λe=>e.2==(i:Int)
theorem S5 (E:List (ByteArray×Int))(j i:Nat):zx E j i<=j:=
 cL List.countP_le_length (by rw[aJ];omega)
theorem Vt (E:List (ByteArray×Int))(i:Nat):zx E 0 i=0:=by simp[zx]
theorem Vu (z:j<E.length)(i:Nat):zx E (j+1) i=zx E j i+if jq E j=(i:Int) then 1 else 0:=by
 unfold zx;rw[bR z,List.countP_append,List.countP_singleton];have :jq E j=E[j].2:=by simp[jq,z]
 rw[this];by_cases h:E[j].2=(i:Int)<;>simp[h]
def J7 (T:List (bS×Value)):Nat->Nat->Nat
 |0,_=>0
 |k+1,i=>J7 T k i+zx (nT T k).E (nT T k).E.length i
def lM (T:List (bS×Value)) (i:Nat):Nat:=J7 T 32 i
def kG (T:List (bS×Value)):Nat->List (Nat×bS)
 |0=>[]
 |k+1=>kG T k++if (nT T k).F=0 then [] else [(k,nT T k)]
def xt:List (Nat×bS)->Nat->Nat
 | [],_=>0
 |p::l,i=>zx p.2.E p.2.E.length i+xt l i
theorem Ef (l m:List (Nat×bS))(i:Nat):xt (l++m) i=xt l i+xt m i:=by
 induction l with
 |nil=>simp[xt]
 |cons p l ih=>simp[xt,ih];omega
theorem Zb (z:aeK T)(k i:Nat):xt (kG T k) i=J7 T k i:=by
 induction k with
 |zero=>rfl
 |succ k ih=>
  unfold kG J7;rw[Ef,ih];by_cases h:(nT T k).F=0
  ·rw[aB h,z k h];rfl
  ·rw[aA h];simp[xt]
theorem oP{p:Nat×bS}:p∈kG T k↔p.1<k/\p.2=nT T p.1/\p.2.F≠0:=by
 induction k with
 |zero=>simp[kG]
 |succ k ih=>
  unfold kG;rw[aR,ih];constructor
  ·rintro (⟨J,z,G⟩|h)
   ·exact⟨by omega,z,G⟩
   ·split at h
    ·simp at h
    ·next hF=>
     rw[au] at h;subst h;exact⟨by show k<_;omega,rfl,hF⟩
  ·rintro⟨J,z,G⟩
   by_cases e:p.1=k
   ·right
    rw[aA (by rw[<-e,<-z];exact G),au];obtain⟨a,c⟩:=p;cases e;exact cP (Prod.mk a) z
   ·exact .inl ⟨by omega,z,G⟩
def kX (X:List Int):Prop:=
 X.getD 0 0=7596835243318849792/\(X.getD 1 0=1\/X.getD 1 0=2)/\X.getD 2 0<=32/\(∀i:Nat,3<=i->i<8->X.getD i 0=0)/\∀i:Nat,820<=i->i<824->X.getD i 0=0
def wK (X:List Int) (T:List (bS×Value)):Prop:=∀i:Nat,i<32->dR X (i:Int)\/(nT T i).F≠0
def N0 (X:List Int) (T:List (bS×Value)):Prop:=(nT T 0).K=2/\∀i:Nat,i<32->0<lM T i->¬dR X (i:Int)
def tA (i:Nat) (n:bS) (c:Nat):Prop:=(n.K=1->(c:Int)=n.L/\1<=c)/\(n.K=2->n.L=1/\(i=0->c=0)/\(i≠0->c=1))
def ye (T:List (bS×Value)):Prop:=∀i:Nat,i<32->tA i (nT T i) (lM T i)
def GY (X:List Int) (T:List (bS×Value)):Prop:=∀i:Nat,i<32->¬dR X (i:Int)->Reach T 0 (i:Int)
def jZ (T:List (bS×Value)) (own:Nat->List Nat):Nat->Nat->Nat
 |0,_=>0
 |k+1,b=>jZ T own k b+(own k++dv (nT T k)).count b
def xu (T:List (bS×Value)) (own:Nat->List Nat) (b:Nat):Nat:=jZ T own 32 b
def S6 (X:List Int) (T:List (bS×Value)) (own:Nat->List Nat):Prop:=∀b:Nat,b<256->xu T own b<=1/\(dn X b=true↔xu T own b=1)
def jS (X:List Int) (n:bS):Prop:=n.K=1->∀k:Nat,k<13->n.B.getD k 0≠0->∀j:Nat,j<64->n.S<=64*(k:Int)+j->rG (X.getD (1080+8*(n.B.getD k 0).toNat+j/8) 0).toNat (j%8)=0
def yf (X:List Int) (T:List (bS×Value)):Prop:=∀i:Nat,i<32->jS X (nT T i)
def tB (X:List Int) (T:List (bS×Value)) (own:Nat->List Nat):Nat->Prop
 |0=>kX X
 |1=>wK X T
 |2=>N0 X T
 |3=>ye T
 |4=>GY X T
 |5=>S6 X T own
 |6=>yf X T
 |_=>True
def Lv (P:Nat->Prop) (k:Nat):Prop:=(k=0/\∀j,j<7->P j)\/(0<k/\k<=7/\¬P (k-1)/\∀j,j<k-1->P j)
theorem Lv.uniq{J:Nat}(h:Lv P k)(U:Lv P J):k=J:=by
 rcases h with ⟨rfl,G⟩|⟨h0,h1,G,h3⟩
 ·rcases U with ⟨rfl,-⟩|⟨g0,V,z,-⟩
  ·rfl
  ·exact absurd (G _ (by omega)) z
 ·rcases U with ⟨rfl,z⟩|⟨g0,V,z,W⟩
  ·exact absurd (z _ (by omega)) G
  ·rcases Nat.lt_trichotomy k J with e|e|e
   ·exact absurd (W (k-1) (by omega)) G
   ·exact e
   ·exact absurd (h3 (J-1) (by omega)) z
theorem Vv (hB:n.B.length=13)(W:cm n)(hK:n.K=1):jS X n↔(n.S%64≠0->n.B.getD (n.S/64).toNat 0≠0->∀j:Nat,n.S%64<=(j:Int)->j<64->rG (X.getD (1080+8*(n.B.getD (n.S/64).toNat 0).toNat+j/8) 0).toNat (j%8)=0):=by
 have hS:0<=n.S/\n.S<=832:=by
  rcases W.2.2 with h|h
  ·exact h.2.1
  ·omega
 have uC:=Vm hB W;constructor
 ·intro h h0 z j U J
  refine h hK (n.S/64).toNat (by omega) z j J ?_;omega
 ·intro h _ k V z j U aa
  have h1:=(uC k V).2 (by have :=(uC k V).1;omega);have h2:=h1.2.1;have G:k=(n.S/64).toNat:=by omega
  subst G;exact h (by omega) z j (by omega) U
theorem Vw (v:Value)(hB:n.B.length=13)(hK:n.K=1\/n.K=2)(i c:Nat)(w:World):
  Calls prog 139 #[(i:Int),aL n v,(c:Int)] w (dz w (tA i n c)):=by
 have hb:=bc.new w (aL n v) 75;have hk:=(ay.refl [] w).alloc (.cells (aL n v) 75);have z:Hid (∀r:Bool,(r=true↔((n.K=1->(c:Int)=n.L/\1<=c)/\(n.K=2->n.L=1/\(i=0->c=0)/\(i≠0->c=1))))->dz w (tA i n c) (.returned (.bool r)) (w.alloc (.cells (aL n v) 75))):=λr h=>⟨r,rfl,h,hk⟩
 have c1:(w.alloc (.cells (aL n v) 75)).cell? ⟨w.heap.size,1,none⟩=some (.int .i64 n.K):=by rw[hb.cell];exact(fT v hB).f1
 have c2:(w.alloc (.cells (aL n v) 75)).cell? ⟨w.heap.size,2,none⟩=some (.int .i64 n.L):=by rw[hb.cell];exact(fT v hB).f2
 clear hb hk;generalize aL n v=Z,tA i n c=pP,n.K=K,n.L=L at *;obtain⟨U,Pw⟩:∃U:Int,(c:Int)=U:=⟨_,rfl⟩;obtain⟨ii,W⟩:∃ii:Int,(i:Int)=ii:=⟨_,rfl⟩;obtain⟨L5,Yq⟩:=hh2 Pw W;rw[Pw,W];rw[Pw] at z;clear Pw W;rcases hK with rfl|rfl
 ·by_cases G:U=L
  ·have b1:(U==L)=true:=by simpa using G
   by_cases V:1<=U
   ·have J:=ar (z.out true ⟨λ_=>⟨λ_=>⟨G,by have :=L5.out;omega⟩,λh=>by omega⟩,λ_=>rfl⟩)
    clear z G;go_in;go_wp2;go_ret;exact J.out
   ·have J:=ar (z.out false ⟨(λh=>by cases h),λh=>by have :=L5.out;have :=(h.1 rfl).2;omega⟩)
    clear z G;go_in;go_wp2;go_ret;exact J.out
  ·have b1:(U==L)=false:=by simpa using G
   have J:=ar (z.out false ⟨(λh=>by cases h),λh=>absurd (h.1 rfl).1 G⟩);clear z G;go_in;go_wp2;go_ret;exact J.out
 ·by_cases e0:ii=0
  ·subst e0
   by_cases G:L=1
   ·subst G
    by_cases V:U=0
    ·subst V
     have J:=ar (z.out true ⟨λ_=>⟨λh=>by omega,λ_=>⟨rfl,λ_=>by have :=L5.out;omega,λh=>by have :=Yq.out;omega⟩⟩,λ_=>rfl⟩);clear z;go_in;go_wp2;go_ret;exact J.out
    ·have b2:(U==0)=false:=by simpa using V
     have J:=ar (z.out false ⟨(λh=>by cases h),λh=>by have :=(h.2 rfl).2.1 (by have :=Yq.out;omega);have :=L5.out;omega⟩);clear z V;go_in;go_wp2;go_ret;exact J.out
   ·have b1:(L==1)=false:=by simpa using G
    have J:=ar (z.out false ⟨(λh=>by cases h),λh=>absurd (h.2 rfl).1 G⟩);clear z G;go_in;go_wp2;go_ret;exact J.out
  ·have b0:(ii==0)=false:=by simpa using e0
   by_cases G:L=1
   ·subst G
    by_cases V:U=1
    ·subst V
     have J:=ar (z.out true ⟨λ_=>⟨λh=>by omega,λ_=>⟨rfl,λh=>by have :=Yq.out;omega,λ_=>by have :=L5.out;omega⟩⟩,λ_=>rfl⟩);clear z e0;go_in;go_wp2;go_ret;exact J.out
    ·have b2:(U==1)=false:=by simpa using V
     have J:=ar (z.out false ⟨(λh=>by cases h),λh=>by have :=(h.2 rfl).2.2 (by have :=Yq.out;omega);have :=L5.out;omega⟩);clear z V e0;go_in;go_wp2;go_ret;exact J.out
   ·have b1:(L==1)=false:=by simpa using G
    have J:=ar (z.out false ⟨(λh=>by cases h),λh=>absurd (h.2 rfl).1 G⟩);clear z G e0;go_in;go_wp2;go_ret;exact J.out
def EJ (i:Int) (x:Int):Prop:=(i=0->x=7596835243318849792)/\(i=1->x=1\/x=2)/\(i=2->x<=32)/\(2<i->x=0)
def J8 (w:World) (p:Prop) (e:Ending) (w':World):Prop:=(∃r:Bool,e=r/\(r=true↔p))/\w=w'
theorem IV (i x:Int)(hi:0<=i)(w:World):
  Calls prog 136 #[i,.int .u64 x] w (J8 w (EJ i x)):=by
 have z:Hid (∀r:Bool,(r=true↔((i=0->x=7596835243318849792)/\(i=1->x=1\/x=2)/\(i=2->x<=32)/\(2<i->x=0)))->J8 w (EJ i x) (.returned (.bool r)) w):=λr h=>⟨⟨r,rfl,h⟩,rfl⟩
 generalize EJ i x=pP at *;by_cases V:i=0
 ·subst V
  by_cases U:x=7596835243318849792
  ·have G:=ar (z.out true ⟨λ_=>⟨λ_=>U,by omega,by omega,by omega⟩,λ_=>rfl⟩)
   have b1:(x==7596835243318849792)=true:=by simpa using U
   clear z U;go_in;go_wp2;go_ret;exact G.out
  ·have G:=ar (z.out false ⟨(λh=>by cases h),λh=>absurd (h.1 rfl) U⟩)
   have b1:(x==7596835243318849792)=false:=by simpa using U
   clear z U;go_in;go_wp2;go_ret;exact G.out
 ·have b0:(i==0)=false:=by simpa using V
  by_cases U:i=1
  ·subst U
   by_cases W:x=1
   ·subst W
    have G:=ar (z.out true ⟨λ_=>⟨by omega,λ_=> .inl rfl,by omega,by omega⟩,λ_=>rfl⟩);clear z V;go_in;go_wp2;go_ret;exact G.out
   ·have b2:(x==1)=false:=by simpa using W
    by_cases J:x=2
    ·subst J
     have G:=ar (z.out true ⟨λ_=>⟨by omega,λ_=> .inr rfl,by omega,by omega⟩,λ_=>rfl⟩);clear z V W;go_in;go_wp2;go_ret;exact G.out
    ·have b3:(x==2)=false:=by simpa using J
     have G:=ar (z.out false ⟨(λh=>by cases h),λh=>by have :=h.2.1 rfl;omega⟩);clear z V W J;go_in;go_wp2;go_ret;exact G.out
  ·have b1:(i==1)=false:=by simpa using U
   by_cases W:i=2
   ·subst W
    by_cases J:x<=32
    ·have G:=ar (z.out true ⟨λ_=>⟨by omega,by omega,λ_=>J,by omega⟩,λ_=>rfl⟩)
     clear z V U;go_in;go_wp2;go_ret;simpa[J] using G.out
    ·have G:=ar (z.out false ⟨(λh=>by cases h),λh=>absurd (h.2.2.1 rfl) J⟩)
     clear z V U;go_in;go_wp2;go_ret;simpa[J] using G.out
   ·have b2:(i==2)=false:=by simpa using W
    by_cases J:x=0
    ·subst J
     have G:=ar (z.out true ⟨λ_=>⟨by omega,by omega,by omega,λ_=>rfl⟩,λ_=>rfl⟩);clear z V U W;go_in;go_wp2;go_ret;exact G.out
    ·have b3:(x==0)=false:=by simpa using J
     have G:=ar (z.out false ⟨(λh=>by cases h),λh=>absurd (h.2.2.2 (by omega)) J⟩);clear z V U W J;go_in;go_wp2;go_ret;exact G.out
structure gK (w:World) (b gp:Nat) (B:List Int) (ps:List (Int×Int)) (T:List (bS×Value)) (own:Nat->List Nat):Prop where
 sh:eN w b gp B ps
 w64:In64 (az B ps)
 gots:rF (az B ps) T own
 lt:b<w.heap.size/\gp<w.heap.size
theorem gK.keep{G:Nat}(h:gK w b G B ps T own){l:List Nat}(J:ay l w w')(U:∀k∈l,w.heap.size<=k\/(k≠b/\k≠G):=by simp):gK w' b G B ps T own:=
 ⟨h.sh.keep J (λz=>by have :=U _ z;have :=h.lt;omega) (λz=>by have :=U _ z;have :=h.lt;omega),h.w64,h.gots,by have :=h.lt;have :=J.size;omega⟩
theorem gK.keep0{z:Nat}(h:gK w b z B ps T own)(G:ay [] w w'):gK w' b z B ps T own:=h.keep G
def yV (w:World) (X:List Int) (T:List (bS×Value)) (own:Nat->List Nat) (i:Nat) (e:Ending) (w':World):Prop:=
 ∃v g h z r,e= .returned (.tuple #[aL (nT T i) v,h,(r:Int)])/\(nT T i).B.length=13/\bD w' v g (nT T i).E/\w.heap.size<=g/\lQ w' h z (own i)/\w.heap.size<=z/\ay [] w w'/\
  ((r=0/\(nT T i).F≠0)\/(r=2/\(nT T i).F=0/\dR X (i:Int))\/(r=10/\(nT T i).F=0/\¬dR X (i:Int)))
theorem gK.get(h:gK w b gp B ps T own){i:Nat}(G:i<32):
  Calls prog 30 #[b,(i:Int)] w (yV w (az B ps) T own i):=by
 refine(get_at h.sh h.w64 (i:Int)).mono ?_;rintro e w' ⟨n,v,g,o,va,V,r,rfl,hB,U,hg,hO,z,J,W⟩;obtain⟨rfl,rfl,h3⟩:=h.gots.get G W;exact⟨v,g,va,V,r,rfl,hB,U,hg,hO,z,J,h3⟩
theorem gK.below{U:Nat}(h:gK w b U B ps T own)(d i:Int):
  Calls prog 124 #[b,d,i] w (dz w (Reach T d i)):=
 Q7 (λx wx z=>by
  refine(get_at (h.keep0 z).sh h.w64 x).mono ?_;rintro e w' ⟨n,v,g,o,va,ga,r,rfl,hB,G,W,V,xe,z,J⟩;obtain⟨a,cap,rfl,-,-,-⟩:=V.reads;exact⟨n,v,g,a,_,cap,r,rfl,hB,G,W,h.gots.succ J,z⟩) h.gots.tabN d i
theorem N3{i:Nat}(h:i<3128):AV B ps (i:Int)=(az B ps).getD i 0:=by
 unfold AV;rw[aB,aF]
theorem Vx (X:List Int):kX X↔(∀i:Nat,i<8->EJ (i:Int) (X.getD i 0))/\∀k:Nat,k<4->X.getD (820+k) 0=0:=by
 unfold kX EJ;constructor
 ·rintro⟨U,z,J,G,V⟩
  refine⟨λi hi=>⟨λe=> ?_,λe=> ?_,λe=> ?_,λe=>G i (by omega) hi⟩,λk hk=>V _ (by omega) (by omega)⟩
  ·obtain rfl:i=0:=by omega
   exact U
  ·obtain rfl:i=1:=by omega
   exact z
  ·obtain rfl:i=2:=by omega
   exact J
 ·rintro⟨h,g⟩
  refine⟨(h 0 (by omega)).1 rfl,(h 1 (by omega)).2.1 rfl,(h 2 (by omega)).2.2.1 rfl,λi G W=>(h i W).2.2.2 (by omega),λi z J=> ?_⟩;have :=g (i-820) (by omega);rwa[show 820+(i-820)=i by omega] at this
theorem IW (h:eN w b gp B ps):
  Calls prog 92 #[b] w (dz w (kX (az B ps))):=by
 have HG:Hid (∀i:Nat,i<3128->Calls prog 57 #[b,(i:Int)] w λe w'=>e= .returned (.int .u64 ((az B ps).getD i 0))/\w=w'):=λi hi=>by
  have :=nW h (i:Int);rwa[N3 hi] at this
 have HP:Hid (∀r:Bool,(r=true↔(∀i:Nat,i<8->EJ (i:Int) ((az B ps).getD i 0))/\∀k:Nat,k<4->(az B ps).getD (820+k) 0=0)->dz w (kX (az B ps)) (.returned (.bool r)) w):=λr hr=>⟨r,rfl,hr.trans (Vx _).symm,ay.refl _ _⟩
 clear h;generalize az B ps=X at *;generalize kX X=pS at *;go_in;go_wp2_with fail;go_loopg [3] 8 (λgh s3 wx=>w=wx/\∃k:Nat,k+gh=8/\s3= .int .i64 (k:Int)/\Hid (∀i:Nat,i<k->EJ (i:Int) (X.getD i 0)))
 case atStart=>exact⟨rfl,0,by omega,rfl,λi hi=>by omega⟩
 case round=>
  obtain⟨rfl,k,hk,rfl,G⟩:=hrel;cases gk with
  |succ gg=>
   have xa:(k:Int)<8:=by omega
   have cM:(0:Int)<=(k:Int):=by omega
   obtain⟨z,ac⟩:=hh2 (HG.out k (by omega)) (IV (k:Int) (X.getD k 0) cM);have W:Hid (EJ (k:Int) (X.getD k 0)->∀i:Nat,i<k+1->EJ (i:Int) (X.getD i 0)):=λV i hi=>by
    by_cases e:i=k
    ·rw[e];exact V
    ·exact G.out i (by omega)
   have U:Hid (¬EJ (k:Int) (X.getD k 0)->¬((∀i:Nat,i<8->EJ (i:Int) (X.getD i 0))/\∀k:Nat,k<4->X.getD (820+k) 0=0)):=λV hh=>V (hh.1 k (by omega))
   generalize X.getD k 0=x at *;clear G HG;go_wp2_with fail;refine C' z.out ?_;clear z;go_wp2_with fail;refine(ac.out _).mono ?_;rintro e w1 ⟨⟨r,rfl,hr⟩,rfl⟩;clear ac;cases r
   ·have HF:=ar (HP.out false ⟨(λh=>by cases h),λhh=>absurd hh (U.out λV=>by cases hr.2 V)⟩)
    clear W U HP hr;go_wp2;go_ret;exact HF.out
   ·have HN:=ar (W.out (hr.1 rfl))
    clear W U hr;go_wp2;go_roundg gg;case measure=>omega
    case rel=>exact⟨rfl,k+1,by omega,by go_num,HN.out⟩
  |zero=>
   obtain rfl:k=8:=by omega
   have H8:=ar G.out;clear G hk;go_wp2_with fail;go_loopg [4] 4 (λgh s4 wx=>w=wx/\∃k:Nat,k+gh=4/\s4= .int .i64 ((820+k:Nat):Int)/\Hid (∀i:Nat,i<k->X.getD (820+i) 0=0))
   case atStart=>exact⟨rfl,0,by omega,rfl,λi hi=>by omega⟩
   case round=>
    obtain⟨rfl,k,hk,rfl,G⟩:=hrel;have z:Hid (k<4->Calls prog 57 #[b,((820+k:Nat):Int)] w λe w'=>e= .returned (.int .u64 (X.getD (820+k) 0))/\w=w'):=λag=>HG.out (820+k) (by omega)
    have W:Hid (X.getD (820+k) 0=0->∀i:Nat,i<k+1->X.getD (820+i) 0=0):=λV i hi=>by
     by_cases e:i=k
     ·rw[e];exact V
     ·exact G.out i (by omega)
    have U:Hid (k<4->X.getD (820+k) 0≠0->¬((∀i:Nat,i<8->EJ (i:Int) (X.getD i 0))/\∀k:Nat,k<4->X.getD (820+k) 0=0)):=λh4 V hh=>V (hh.2 k h4)
    obtain⟨q,hq⟩:∃q,820+k=q:=⟨_,rfl⟩;rw[hq] at z W U;rw[hq];have HQ:=ar hq;generalize X.getD q 0=x at *;cases gk with
    |succ g2=>
     have ae:(q:Int)<824:=by omega
     have af:(0:Int)<=(q:Int):=by omega
     have J:=ar (z.out (by omega));have aa:k<4:=by omega
     clear z G HG H8 hq;by_cases hx:x=0
     ·subst hx
      have HN:=ar (W.out rfl);clear W U aa;go_wp2_with fail;refine C' J.out ?_;clear J;go_wp2;go_roundg g2;case measure=>omega
      case rel=>exact⟨rfl,k+1,by omega,by have :=HQ.out;go_num,HN.out⟩
     ·have hb:(x != 0)=true:=bne_iff_ne.2 hx
      have HF:=ar (HP.out false ⟨(λh=>by cases h),λhh=>absurd hh (U.out aa hx)⟩);clear W U HP hx aa;go_wp2_with fail;refine C' J.out ?_;clear J;go_wp2;go_ret;exact HF.out
    |zero=>
     obtain rfl:k=4:=by omega
     have ae:¬(q:Int)<824:=by omega
     have HF:=ar (HP.out true ⟨λ_=>⟨H8.out,G.out⟩,λ_=>rfl⟩);clear W U HP z G H8 HG hq;go_wp2;go_ret;exact HF.out
theorem Vy (h:gK w b gp B ps T own):
  Calls prog 93 #[b] w (dz w (wK (az B ps) T)):=by
 have HG:Hid (∀J,ay [] w J->∀i:Nat,i<32->Calls prog 30 #[b,(i:Int)] J (yV J (az B ps) T own i)):=λJ hk i hi=>(h.keep0 hk).get hi
 have HP:Hid (∀(r:Bool) w',(r=true↔∀i:Nat,i<32->dR (az B ps) (i:Int)\/(nT T i).F≠0)->ay [] w w'->dz w (wK (az B ps) T) (.returned (.bool r)) w'):=λr w' hr hk=>⟨r,rfl,hr,hk⟩
 have rq:=dC;obtain⟨Z0,CY⟩:∃Z0,aL bY (.slice none 0 0)=Z0:=⟨_,rfl⟩;have K3:Hid (Z0.size=18):=by show _=_;rw[<-CY];rfl
 rw[CY] at rq;clear h CY;generalize wK (az B ps) T=pP at *;generalize az B ps=X at *;go_in;go_wp2_with fail;go_loopg [7] 32 (λgh s7 J=>∃k:Nat,k+gh=32/\s7= .int .i64 (k:Int)/\Hid (ay [] w J/\∀i:Nat,i<k->dR X (i:Int)\/(nT T i).F≠0))
 case atStart=>exact⟨0,by omega,rfl,ay.refl _ _,λi hi=>by omega⟩
 case round=>
  obtain⟨k,hk,rfl,G⟩:=hrel;cases gk with
  |zero=>
   obtain rfl:k=32:=by omega
   have HF:=ar (HP.out true _ ⟨λ_=>G.out.2,λ_=>rfl⟩ G.out.1);clear G HP HG;go_wp2;go_ret;exact HF.out
  |succ gg=>
   have xa:(k:Int)<32:=by omega
   have vt:k<32:=by omega
   have V:=ar (HG.out _ G.out.1 k vt);clear HG;go_wp2_with fail;refine V.out.mono ?_;rintro e w3 ⟨v,g,va,ga,r,rfl,hB,hE,hg,hO,xe,W,hr⟩;obtain⟨w4,p1,p2,p3⟩:=cr (n:=nT T k) (v:=v) (bc.new w3 Z0 75) K3.out hB hE.one;have tY:=ar p1;have qB:Hid (ay [] w w4):=(G.out.1.trans' W).trans' (((ay.refl [] w3).alloc _).trans p3 (by intro x hx;rw[au] at hx;omega));obtain⟨U,z⟩:=hh2 hr G.out.2;clear hB hE hg hO xe W hr p1 p2 p3 G V;generalize aL (nT T k) v=ZN at *;by_cases h0:r=0
   ·subst h0
    have HN:Hid (∀i:Nat,i<k+1->dR X (i:Int)\/(nT T i).F≠0):=λi hi=>by
     by_cases e:i=k
     ·rw[e]
      rcases U.out with ⟨-,h⟩|⟨h,-⟩|⟨h,-⟩
      ·exact .inr h
      ·omega
      ·omega
     ·exact z.out i (by omega)
    clear U z;go_wp2_with(with_reducible refine gS 75 tY.out ?_);go_roundg gg;case measure=>omega
    case rel=>exact⟨k+1,by omega,by go_num,qB.out,HN.out⟩
   ·have b0:(r != 0)=true:=bne_iff_ne.2 h0
    by_cases h2:r=2
    ·subst h2
     have HN:Hid (∀i:Nat,i<k+1->dR X (i:Int)\/(nT T i).F≠0):=λi hi=>by
      by_cases e:i=k
      ·rw[e]
       rcases U.out with ⟨h,-⟩|⟨-,-,h⟩|⟨h,-⟩
       ·omega
       ·exact .inl h
       ·omega
      ·exact z.out i (by omega)
     clear U z h0;go_wp2_with(with_reducible refine gS 75 tY.out ?_);go_roundg gg;case measure=>omega
     case rel=>exact⟨k+1,by omega,by go_num,qB.out,HN.out⟩
    ·have b2:(r != 2)=true:=bne_iff_ne.2 h2
     have HF:Hid (dz w pP (.returned false) w4):=HP.out false _ ⟨(λh=>by cases h),λhh=>by
      rcases U.out with ⟨h,-⟩|⟨h,-⟩|⟨-,h3,h4⟩
      ·exact absurd h h0
      ·exact absurd h h2
      ·rcases hh k vt with h|h
       ·exact absurd h h4
       ·exact absurd h3 h⟩ qB.out
     clear U z h0 h2 HP;go_wp2_with(with_reducible refine gS 75 tY.out ?_);go_ret;exact HF.out
theorem IX (h:gK w b gp B ps T own):
  Calls prog 96 #[b] w (dz w (GY (az B ps) T)):=by
 have zL:Hid (∀J,ay [] w J->∀i:Nat,i<32->Calls prog 59 #[b,(i:Int)] J λe w'=>e=(decide (dR (az B ps) (i:Int)))/\ay [] J w'):=λJ hk i hi=>by
  have :=E0 (h.keep0 hk).sh (i:Int);rwa[show decide ((0<=(i:Int)/\(i:Int)<32)/\dR (az B ps) (i:Int))=decide (dR (az B ps) (i:Int)) by rw[decide_eq_decide];exact⟨λh=>h.2,λh=>⟨⟨by omega,by omega⟩,h⟩⟩] at this
 have U:Hid (∀J,ay [] w J->∀i:Nat,Calls prog 124 #[b,(0:Int),(i:Int)] J (dz J (Reach T 0 (i:Int)))):=λJ hk i=>(h.keep0 hk).below 0 (i:Int)
 have HP:Hid (∀(r:Bool) w',(r=true↔∀i:Nat,i<32->¬dR (az B ps) (i:Int)->Reach T 0 (i:Int))->ay [] w w'->dz w (GY (az B ps) T) (.returned (.bool r)) w'):=λr w' hr hk=>⟨r,rfl,hr,hk⟩
 clear h;generalize GY (az B ps) T=pP at *;generalize az B ps=X at *;go_in;go_wp2_with fail;go_loopg [4] 32 (λgh s4 J=>∃k:Nat,k+gh=32/\s4= .int .i64 (k:Int)/\Hid (ay [] w J/\∀i:Nat,i<k->¬dR X (i:Int)->Reach T 0 (i:Int)))
 case atStart=>exact⟨0,by omega,rfl,ay.refl _ _,λi hi=>by omega⟩
 case round=>
  obtain⟨k,hk,rfl,V⟩:=hrel;cases gk with
  |zero=>
   obtain rfl:k=32:=by omega
   have HF:=ar (HP.out true _ ⟨λ_=>V.out.2,λ_=>rfl⟩ V.out.1);clear V HP zL U;go_wp2;go_ret;exact HF.out
  |succ gg=>
   have xa:(k:Int)<32:=by omega
   have vt:k<32:=by omega
   obtain⟨S7,z,CK⟩:=hh3 (zL.out _ V.out.1 k vt) V.out.2 V.out.1;clear V zL;by_cases hf:dR X (k:Int)
   ·rw[bq hf] at S7
    have HN:Hid (∀i:Nat,i<k+1->¬dR X (i:Int)->Reach T 0 (i:Int)):=λi hi hn=>by
     by_cases e:i=k
     ·rw[e] at hn;exact absurd hf hn
     ·exact z.out i (by omega) hn
    clear hf z U;go_wp2_with fail;refine Rr S7.out λw1 G=> ?_;have jv:=ar (CK.out.trans' G);clear G S7 CK;go_wp2;go_roundg gg;case measure=>omega
    case rel=>exact⟨k+1,by omega,by go_num,jv.out,HN.out⟩
   ·rw[aP hf] at S7
    have W:=ar hf;clear hf;go_wp2_with fail;refine Rr S7.out λw1 G=> ?_;have jv:=ar (CK.out.trans' G);have zC:=ar (U.out _ jv.out k);clear G S7 CK U;go_wp2_with fail;refine zC.out.mono ?_;rintro e w2 ⟨r,rfl,hr,aa⟩;obtain⟨fC,HR⟩:=hh2 (jv.out.trans' aa) hr;clear aa hr jv zC;cases r
    ·have HF:=ar (HP.out false _ ⟨(λh=>by cases h),λhh=>HR.out.2 (hh k vt W.out)⟩ fC.out)
     clear HP HR z W;go_wp2;go_ret;exact HF.out
    ·have HN:Hid (∀i:Nat,i<k+1->¬dR X (i:Int)->Reach T 0 (i:Int)):=λi hi hn=>by
      by_cases e:i=k
      ·rw[e];exact HR.out.1 rfl
      ·exact z.out i (by omega) hn
     clear HP HR z W;go_wp2;go_roundg gg;case measure=>omega
     case rel=>exact⟨k+1,by omega,by go_num,fC.out,HN.out⟩
end Go.Proofs.YtimcfdnbpkiniaaGreatDoor

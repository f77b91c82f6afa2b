/- Lemmas. -/
import Derived.Test.YtepbpdipenedhaaGreatDoorS18
set_option maxHeartbeats 4000000
set_option maxRecDepth 100000
namespace Go.Proofs.YtepbpdipenedhaaGreatDoor
open Go.Proofs.Tryz
open Go.RowKit
variable{B X l:List Int}{Z b cap g gp j k n:Nat}{w w':World}{a:Option Addr}{T:List (bN×Value)}{ps:List (Int×Int)}{own:Nat->List Nat}{f f':Nat->Nat}
theorem M5 (h:j<l.length):(zs l)[j]? =some (.int .i64 (l.getD j 0)):=fp h
def Fb (w:World) (h:Prop) (e:Ending) (w':World):Prop:=∃r:Int,e= .returned (.int .i64 r)/\w=w'/\(0<=r↔h)
theorem Ta (x:Int)(hR:Reads w (.slice a l.length cap) g (zs l)):
  Calls prog 184 #[.slice a l.length cap,.int .i64 x] w (Fb w (x∈l)):=by
 have HC:Hid (∀j,j<l.length->∃off,a=some ⟨g,off,none⟩/\w.cell? ⟨g,off+j,none⟩=some (.int .i64 (l.getD j 0))):=λj z=>by
  obtain⟨a',V,hv,-,-,h3⟩:=hR
  injection hv with e1 e2 e3
  have aa:zs l≠[]:=λe=>by have :=b8 List.length e;rw[dG,b9] at this;omega
  obtain⟨-,off,h5,h6⟩:=h3 aa;exact⟨off,by rw[e1];exact h5,by rw[h6 j (by rw[dG];exact z),M5 z]⟩
 have ac:l.length<=maxLen:=by
  obtain⟨a',V,hv,h1,h2,-⟩:=hR;rw[dG] at h1;omega
 have Z:Hid (∀j,j<l.length->l.getD j 0=x->x∈l):=λj z e=>by
  rw[<-e,aj,aF z];exact bA z
 have W:Hid ((∀j,j<l.length->l.getD j 0≠x)->¬x∈l):=λh hm=>by
  obtain⟨j,z,e⟩:=bU hm;exact h j z (by rw[aj,aF z];exact e)
 unfold maxLen at ac;clear hR;generalize hm:l.length=m at *;clear hm;have J:Hid (∀r:Int,(0<=r↔x∈l)->Fb w (x∈l) (.returned (.int .i64 r)) w):=λr h=>⟨r,rfl,rfl,h⟩
 generalize ae:(x∈l)=px at *;clear ae;go_enter func184,ntmps184;go_wp2_with fail;go_loopg [8] m (λgh s8 wx=>∃k:Nat,k+gh=m/\s8= .int .i64 (k:Int)/\w=wx/\Hid (∀j,j<k->l.getD j 0≠x))
 case atStart=>exact⟨0,by omega,rfl,rfl,λj z=>by omega⟩
 case round=>
  obtain⟨k,hk,rfl,rfl,U⟩:=hrel;cases gk with
  |zero=>
   obtain rfl:k=m:=by omega
   have HF:=ar (J.out (-1) ⟨λh=>by omega,λh=>absurd h (W.out U.out)⟩);clear HC Z W U J;go_wp2_with fail;go_ret;exact HF.out
  |succ gg=>
   have af:(k:Int)<(m:Int):=by omega
   have eo:(0:Int)<=(k:Int):=by omega
   have EA:k<m:=by omega
   obtain⟨off,rfl,c0⟩:=HC.out k EA;by_cases G:l.getD k 0=x
   ·have HF:=ar (J.out (k:Int) ⟨λ_=>Z.out k EA G,λ_=>eo⟩)
    have hb:(x==l.getD k 0)=true:=by rw[G];simp
    clear HC Z W U J G;generalize l.getD k 0=y at *;go_wp2_with fail;go_ret;exact HF.out
   ·have oM:Hid (∀j,j<k+1->l.getD j 0≠x):=λj z=>by
     by_cases e:j=k
     ·rw[e];exact G
     ·exact U.out j (by omega)
    have hb:(x==l.getD k 0)=false:=by rw[cj];exact λe=>G e.symm
    clear HC Z W U J G;generalize l.getD k 0=y at *;go_wp2_with fail;go_roundg gg;case measure=>omega
    case rel=>exact⟨k+1,by omega,by go_num,rfl,oM.out⟩
theorem Jm (x:Int)(h:Reads w (.slice a l.length cap) g (zs l)):
  Calls prog 157 #[.slice a l.length cap,.int .i64 x] w λe w'=>e= .returned (.bool (decide (x∈l)))/\w=w':=by
 have G:=ar (Ta x h);clear h;generalize l.length=m at *;go_enter func157,ntmps157;go_wp2_with fail;refine G.out.mono ?_;rintro e w' ⟨r,rfl,rfl,y⟩;have z:=ar y;clear y;go_wp2_with fail;go_ret;refine⟨?_,rfl⟩;show Ending.returned (.bool (decide (0<=r)))=_;rw[decide_eq_decide.2 z.out]
theorem Gy{P:Program}(af:Nat)(t ty e:TypeId)(i:TypeInfo)(z:Value)(size bytes:Nat)(ht:P.underlying t=some (.slice e))(hi:P.info? e=some i)(hz:i.zero=some z)
  (Z:i.size=size) (ah:i.bytes=bytes) (av:0<size) (g n cap:Nat) (xs:List Value) (U:w.ownsRow af e size (.slice (some ⟨g,0,none⟩) n cap) n xs)
  (a:Addr) (m c:Nat) (y:List Value) (hl:y.length=m*size) (G:∀j u,y[j]? =some u->w.cell? (a.add j)=some u) (h1:∀u∈y,u.oneCell'=true)
  (aj:n+m<=maxLen) (W:(n+m)*bytes<=140737488355328) {v':Value} {w':World} (hr:(Builtin.append_ #[t,t] ty #[.slice (some ⟨g,0,none⟩) n cap,.slice (some a) m c]).run P w= .ok v' w'):
  v'.ownBlock=some g\/v'.ownBlock=some w.heap.size:=by
 subst Z;subst ah;have ag:n+m<=9223372036854775807:=by simp only[maxLen] at aj;omega
 have aa:∀j u,xs[j]? =some u->w.cell? ((⟨g,0,none⟩:Addr).add j)=some u:=U.cells (g:=g) rfl;rcases U.2 with ⟨h,-⟩|⟨g',ar,ac,hv,ay,hg,au,ax,ai,ak⟩
 ·cases h
 ·cases hv
  by_cases J:n+m<=cap
  ·have ae:n*i.size+y.length<=ac.size:=by rw[hl,ai,<-Nat.add_mul];exact Nat.mul_le_mul_right _ J
   have V:=run_append_room (P:=P) w t ty e i ht hi g n cap ac hg a m c y hl G h1 J ae;rw[hr] at V
   injection V with e1 e2
   rw[e1];exact .inl rfl
  ·have V:=run_append_grow (P:=P) w t ty e i z ht hi hz ⟨g,0,none⟩ n cap xs U.1 aa a m c y hl G (by omega) (by omega) (growslice_fits (by omega) W)
   rw[hr] at V
   injection V with e1 e2
   rw[e1];exact .inr rfl
def cW (w:World) (p:Prop) (e:Ending) (w':World):Prop:=∃r:Bool,e= .returned (.bool r)/\(r=true↔p)/\ay [] w w'
theorem zW (w:World):(zeroValue 87).run prog w= .ok (.agg #[.string ⟨#[]⟩,.int .i64 0]) w:=by kernel_rfl
theorem xN{T:Nat}{h:Array Value}(s:ByteArray)(y:Int)(G:bf w g h T)(J:h.size=2):
  ∃w',(storeVar 87 ⟨g,0,none⟩ (.agg #[.string s,.int .i64 y])).run prog w= .ok () w'/\bf w' g #[.string s,.int .i64 y] T/\ay [g] w w':=
 bo (P:= prog) (ty:= 87) (cs:=[.string s,.int .i64 y]) BR G (by rw[J];rfl) (by intro u z;simp only[aQ,aS,bD] at z;rcases z with rfl|rfl<;>rfl)
theorem LK (HG:Hid (∀x wx,ay [] w wx->Calls prog 97 #[.pointer (some ⟨b,0,none⟩),.int .i64 x] wx λe w'=>∃n v g a c cap r,e= .returned (.tuple #[.agg (aU n v),.slice a c cap,.int .i64 r])/\n.B.length=13/\br w' v g n.E/\wx.heap.size<=g/\n.E.map (·.2)=mW T x/\ay [] wx w'))(hN:Ph T)(d i:Int):
  Calls prog 114 #[.pointer (some ⟨b,0,none⟩),.int .i64 d,.int .i64 i] w (cW w (Reach T d i)):=by
 have Dp:Hid (∀R k,oH T d i R k->R.length<=33):=λR k hb=>hb.len hN
 obtain⟨i0,hi,aQ,aI,bn⟩:=cr Tryz.info_int;have ba:Hid ((w.alloc (.cells #[.int .i64 d] 3)).ownsRow w.heap.size 3 1 (.slice (some ⟨w.heap.size,0,none⟩) 1 1) 1 (zs [d])):=
  ⟨rfl,.inr ⟨w.heap.size,1,#[.int .i64 d],rfl,aG _,bf.new w _ _,aG _,by unfold maxLen;omega,rfl,rfl⟩⟩
 have nW:=ar (oH.start T d i);have Qx:Hid (∀R k,oH T d i R k->k<=R.length):=λR k U=>U.le
 have XL:Hid (∀R k x,oH T d i R k->R[k]? =some x->x=i->Reach T d i):=λR k x U h2 h3=>U.found h2 h3
 have LL:Hid (∀R k,oH T d i R k->k=R.length->¬Reach T d i):=λR k U h2=>U.ended h2
 have aA:Hid (∀R k x y,oH T d i R k->R[k]? =some x->y∈mW T x->y∉R->oH T d i (R++[y]) k/\(R++[y])[k]? =some x):=λR k x y U h2 h3 h4=>U.more h2 h3 h4
 have kR:Hid (∀R k x,oH T d i R k->R[k]? =some x->x≠i->(∀y∈mW T x,y∈R)->oH T d i R (k+1)):=λR k x U h2 h3 h4=>U.next h2 h3 h4
 have bl:Hid (∀r w',(r=true↔Reach T d i)->ay [] w w'->cW w (Reach T d i) (.returned (.bool r)) w'):=λr w' U h2=>⟨r,rfl,U,h2⟩
 have bv:=fu;obtain⟨Z0,ze⟩:∃Z0,aU cX (.slice none 0 0)=Z0:=⟨_,rfl⟩;have De:Hid (Z0.size=18):=by show _=_;rw[<-ze];rfl
 rw[ze] at bv;have bM:=zW;clear ze hN;generalize bF:Reach T d i=pR at *;generalize bw:oH T d i=bI at *;generalize mW T=sL at *;clear bF bw;go_enter func114,ntmps114;go_wp2_with fail;go_loopg [7,8] 33 (λgh s7 s8 wz=>∃(R:List Int) (k:Nat),s8= .int .i64 (k:Int)/\k+gh=33/\Hid (bI R k/\wz.ownsRow w.heap.size 3 1 s7 R.length (zs R)/\ay [] w wz/\R≠[]))
 case atStart=>exact⟨[d],0,rfl,rfl,nW.out,ba.out,(ay.refl _ _).alloc _,by simp⟩
 case round=>
  clear ba nW;obtain⟨R,k,rfl,hk,J⟩:=hrel;obtain⟨gR,ho,aC⟩:=eQ.of_row J.out.2.1;have ae:R.length≠0:=λe=>J.out.2.2.2 (bc e)
  obtain⟨aV,⟨cR,rfl,bb,bu⟩,V,aP⟩:=ho.cell ae;have bt:=Dp.out R k J.out.1;have Uu:=(aC ae).1;by_cases ag:k<R.length
  ·obtain⟨gg,rfl⟩:∃gg,gk=gg+1:=⟨gk-1,by omega⟩
   have hx:R[k]? =some (R.getD k 0):=by rw[aj,aF ag];rfl
   have c0:wr.cell? ⟨gR,k,none⟩=some (.int .i64 (R.getD k 0)):=by rw[V k (by omega),M5 ag]
   have HX:=ar hx;clear hx V aP ho aC;generalize R.getD k 0=x at *;by_cases IL:x=i
   ·have Az:=ar (XL.out R k x J.out.1 HX.out IL)
    have iA:=ar J.out.2.2.1;have bz:(x==i)=true:=by rw[IL];simp
    have ya:(k:Int)<(R.length:Int):=by omega
    have eo:(0:Int)<=(k:Int):=by omega
    clear J IL XL LL aA kR HG Dp;generalize R.length=q at *;go_wp2_with fail;go_ret;exact bl.out true _ ⟨λ_=>Az.out,λ_=>rfl⟩ iA.out
   ·have bz:(x==i)=false:=by simpa using IL
    have ya:(k:Int)<(R.length:Int):=by omega
    have eo:(0:Int)<=(k:Int):=by omega
    have aN:=ar (HG.out x wr J.out.2.2.1);have Xz:=ar IL;clear IL;obtain⟨q,hq⟩:∃q,R.length=q:=⟨_,rfl⟩;have HQ:=ar hq;rw[hq] at ya ag bt ae bb;rw[hq];clear hq;go_wp2_with fail;refine aN.out.mono ?_;rintro e w3 ⟨n,v,g,a,c,cap,r,rfl,hB,hE,hg,aH,ah⟩;have aZ:=J.out.2.2.1;have bK:=ah.size;obtain⟨an,cn,hv,bQ,Sk,-⟩:=hE.open;subst hv;obtain⟨w4,p1,p2,p3⟩:=fW (n:=n) (v:= .slice an n.E.length cn) (bf.new w3 Z0 111) De.out hB rfl;have aa:ay [] w3 w4:=((ay.refl [] w3).alloc _).trans p3 (by intro x hx;rw[au] at hx;omega);have bD:=aa.size;have bk:w4.cell? ⟨w3.heap.size,17,none⟩=some (.slice an n.E.length cn):=by rw[p2.cell];exact(jL _ hB).f5
    have wQ:=ar p1;have ac:=J.out.2.1;rw[HQ.out] at ac;have kH:=ar (ct (ct ac ah (by simp)) aa (by simp));have aW:=ar (hE.keep aa (by simp));have oN:=ar ((aZ.trans' ah).trans' aa);have Sc:Hid (gR<wr.heap.size/\wr.heap.size<=g/\gR<w4.heap.size/\w.heap.size<=gR):=⟨aV,hg,by omega,Uu⟩;have Kb:=ar aH;have aS:=ar J.out.1;have XK:n.E.length<=9223372036854775807:=by unfold maxLen at Sk;omega
    clear p1 p2 p3 ah aa hE hg aH J aZ bK bD ac aN aV Uu Sk bu bb;generalize aU n (.slice an n.E.length cn)=ZN at *;obtain⟨mE,hm⟩:∃mE,n.E.length=mE:=⟨_,rfl⟩;have af:=ar hm;rw[hm] at bk aW XK;clear hm;go_wp2_with(with_reducible refine gS 111 wQ.out ?_);clear bk;go_loopg [7,41] mE (λgh s7 s41 wz=>∃(G:List Int) (j:Nat),s41= .int .i64 (j:Int)/\j+gh=mE/\Hid (bI G k/\G[k]? =some x/\(∀t,t<j->iC n.E t∈G)/\wz.ownsRow w.heap.size 3 1 s7 G.length (zs G)/\ay [] w wz/\ay [gR] w4 wz/\(∀kk,s7.ownBlock=some kk->kk=gR\/w4.heap.size<=kk)/\G≠[]))
    case atStart=>exact⟨R,0,rfl,by omega,aS.out,HX.out,(λt ht=>by omega),(by rw[HQ.out];exact kH.out),oN.out,ay.refl _ _,(λkk e=>by simp[Value.ownBlock] at e;exact .inl e.symm),(λe=>ae (by rw[<-HQ.out,e];rfl))⟩
    case round=>
     clear kH aS ag ya ae;obtain⟨G,j,rfl,hj,J⟩:=hrel;obtain⟨q1,q2,q3,q4,q5,q6,q7,q8⟩:=J.out;have bH:=Dp.out _ _ q1;cases gk with
     |zero=>
      obtain rfl:j=mE:=by omega
      have Au:Hid (bI G (k+1)):=kR.out G k x q1 q2 Xz.out (λy hy=>by
       rw[<-Kb.out] at hy;obtain⟨t,ht,e⟩:=bU hy;rw[bG] at ht;have :=q3 t (by rw[<-af.out];exact ht);rw[fQ] at e;rwa[show iC n.E t=y by rw[<-e];simp[iC,ht]] at this)
      have Cc:=ar (And.intro q4 (And.intro q5 q8));clear J q1 q2 q3 q4 q5 q6 q7 q8;go_wp2_with fail;go_roundg gg;case measure=>omega
      case rel=>exact⟨G,k+1,by go_num,by omega,Au.out,Cc.out.1,Cc.out.2.1,Cc.out.2.2⟩
     |succ g2=>
      have ai:j<mE:=by omega
      have KJ:(j:Int)<(mE:Int):=by omega
      have zz:(0:Int)<=(j:Int):=by omega
      obtain⟨Uv,DG,bJ⟩:=eQ.of_row q4;have bp:G.length≠0:=λe=>q8 (bc e)
      obtain⟨N3,⟨az,bE,bP,aX⟩,-,-⟩:=DG.cell bp;subst bE;have aB:=aW.out;rw[<-af.out] at aB ai;obtain⟨ax,cx,bo,KN,bB,aY⟩:=aB.open
      injection bo with e1 e2 e3
      subst e1 e3;obtain⟨av,off,rfl,d1,d2⟩:=aY.out j ai;rw[af.out] at ai;have Ci:g∉[gR]:=by have :=Sc.out;rw[au];omega
      have Z5:Hid ((loadVar 87 ⟨g,off+j*2,none⟩).run prog wr= .ok (.agg #[.string (dZ n.E j),.int .i64 (iC n.E j)]) wr):=
       wu ((aK (w:=w4) (a:=⟨g,off+j*2,none⟩) (q6.block g av Ci)).trans d1) ((aK (w:=w4) (a:=⟨g,off+j*2+1,none⟩) (q6.block g av Ci)).trans d2)
      have aO:iC n.E j∈sL x:=by
       rw[<-Kb.out];have U:j<n.E.length:=by rw[af.out];exact ai
       refine bL.2 ⟨n.E[j],bA U,?_⟩;simp[iC,U]
      obtain⟨Z,p1,p2,p3⟩:=xN (dZ n.E j) (iC n.E j) (bf.new wr #[.string ⟨#[]⟩,.int .i64 0] 87) rfl;have jZ:ay [] wr Z:=((ay.refl [] wr).alloc _).trans p3 (by intro x hx;rw[au] at hx;omega);have c1:Z.cell? ⟨wr.heap.size,1,none⟩=some (.int .i64 (iC n.E j)):=by rw[p2.cell];rfl
      have K7:=ar p1;have aT:=ct q4 jZ (by simp);have bC:Hid (Reads Z (.slice (some ⟨Uv,0,none⟩) G.length az) Uv (zs G)):=DG.reads.keep jZ (by simp);have Xk:=ar (Jm (iC n.E j) bC.out);have Yq:=ar aT;have bq:=jZ.size;have Dg:Hid (bI G k/\G[k]? =some x/\(∀t,t<j->iC n.E t∈G)/\ay [] w Z/\ay [gR] w4 Z/\G≠[]/\(Uv=gR\/w4.heap.size<=Uv)/\w4.heap.size<=Z.heap.size/\Uv<Z.heap.size):=⟨q1,q2,q3,q5.trans' jZ,q6.trans jZ (by simp),q8,q7 _ rfl,by have :=q6.size;omega,by omega⟩;have bj:=ar aO;clear p1 p2 p3 jZ q1 q2 q3 q4 q5 q6 q7 q8 aT aO d1 d2 av Ci aY KN bB aB J DG bJ N3 aX bq;obtain⟨y,hy⟩:∃y,iC n.E j=y:=⟨_,rfl⟩;have aR:=ar hy;rw[hy] at Z5 K7 c1 Xk bj;clear hy;obtain⟨sN,aL⟩:∃sN,dZ n.E j=sN:=⟨_,rfl⟩;rw[aL] at Z5 K7;clear aL;go_wp2_with(first|(with_reducible refine gL 87 Z5.out ?_)|(with_reducible refine gS 87 K7.out ?_));refine Xk.out.mono ?_;rintro e w' ⟨rfl,rfl⟩;by_cases W:y∈G
      ·have hd:decide (y∈G)=true:=bh W
       rw[hd];have AH:=ar W;clear hd W Xk Z5 K7;go_wp2_with fail;go_roundg g2;case measure=>omega
       case rel=>exact⟨G,j+1,by go_num,by omega,Dg.out.1,Dg.out.2.1,(λt ht=>by
         by_cases e:t=j
         ·rw[e,aR.out];exact AH.out
         ·exact Dg.out.2.2.1 t (by omega)),Yq.out,Dg.out.2.2.2.1,Dg.out.2.2.2.2.1,(λkk e=>by simp[Value.ownBlock] at e;rw[<-e];exact Dg.out.2.2.2.2.2.2.1),Dg.out.2.2.2.2.2.1⟩
      ·have hd:decide (y∈G)=false:=aM W
       rw[hd];obtain⟨m1,m2⟩:=aA.out G k x y Dg.out.1 Dg.out.2.1 bj.out W;have G5:=bf.new Z #[.int .i64 y] 3;have bO:G.length<=33:=bH;obtain⟨v',w8,hr,aJ,Iv⟩:=jV (P:= prog) 141 3 141 i0 _ 1 8 underlying141 hi aQ aI bn rfl (by omega) w.heap.size G.length _ _ (Yq.out.alloc (.cells #[.int .i64 y] 3)) (some ⟨Z.heap.size,0,none⟩) 1 1 [.int .i64 y] rfl (λ_=>⟨_,rfl,iX _ [_] _ _ rfl⟩) (by simp[Value.oneCell']) (by unfold maxLen;omega) (by omega) (by have U:=Sc.out;have h2:=Dg.out;simp;omega);have ak:=Gy (P:= prog) w.heap.size 141 141 3 i0 _ 1 8 underlying141 hi aQ aI bn (by omega) Uv G.length az _ (Yq.out.alloc (.cells #[.int .i64 y] 3)) ⟨Z.heap.size,0,none⟩ 1 1 [.int .i64 y] rfl (iX _ [_] _ _ rfl) (by simp[Value.oneCell']) (by unfold maxLen;omega) (by omega) hr;have sX:ay [Uv] Z w8:=((ay.refl [Uv] Z).alloc (.cells #[.int .i64 y] 3)).trans (ay.of_grown (l:=[Uv]) Iv (λkk e=>by simp[Value.ownBlock] at e;exact .inl (by simp[e]))) (λz hz=> .inl hz);have HN:Hid (bI (G++[y]) k/\(G++[y])[k]? =some x/\(∀t,t<j+1->iC n.E t∈G++[y])/\w8.ownsRow w.heap.size 3 1 v' (G++[y]).length (zs (G++[y]))/\ay [] w w8/\ay [gR] w4 w8/\(∀kk,v'.ownBlock=some kk->kk=gR\/w4.heap.size<=kk)/\G++[y]≠[]):=by
        obtain⟨a1,a2,a3,a4,a5,a6,a7,a8,a9⟩:=Dg.out;have U:=Sc.out;refine⟨m1,m2,λt ht=> ?_,?_,a4.trans sX (λz hz=>by rw[au] at hz;right;omega),a5.trans sX (λz hz=>by rw[au] at hz;subst hz;rcases a7 with e|e;exact .inl (by simp[e]);exact .inr e),λkk e=> ?_,by simp⟩
        ·by_cases e:t=j
         ·rw[e,aR.out];simp
         ·have :=a3 t (by omega);simp[this]
        ·rw[aD,yA]
         exact aJ
        ·rcases ak with e2|e2
         ·rw[e2] at e;injection e with e;rw[<-e];exact a7
         ·rw[e2] at e;injection e with e;rw[<-e];right;simp;omega
       clear hd W Xk Z5 K7 m1 m2 G5 aJ Iv ak sX;generalize G.length=q' at *;go_wp2_with(at_builtin;refine wpList_append_run rfl (.tmp 50) (.tmp 53) 141 141 ?_ (.slice (some ⟨Uv,0,none⟩) q' az) (.slice (some ⟨Z.heap.size,0,none⟩) 1 1) ?_ ?_ hr ?_;all_goals first|rfl|skip);go_roundg g2;case measure=>omega
       case rel=>exact⟨G++[y],j+1,by go_num,by omega,HN.out⟩
  ·have ya:¬(k:Int)<(R.length:Int):=by omega
   have bg:k=R.length:=by
    have U:=J.out.1;have h2:k<=R.length:=Qx.out R k U;omega
   have jc:=ar (LL.out R k J.out.1 bg);have iA:=ar J.out.2.2.1;clear J XL LL aA kR HG Dp bg V aP ho aC;generalize R.length=q at *;go_wp2_with fail;go_ret;exact bl.out false _ ⟨(λh=>by cases h),λh=>absurd h jc.out⟩ iA.out
def Tb (X:List Int) (b:Int):Bool:=if Dm b=true then dx X b.toNat else true
theorem Pq (h:eT w b Z B ps)(z:In64 (az B ps))(i:Int):
  Calls prog 133 #[.pointer (some ⟨b,0,none⟩),.int .i64 i] w λe w'=>e= .returned (.bool (Tb (az B ps) i))/\w=w':=by
 have G:=ar (xd i w);unfold Tb;cases hi:Dm i
 ·rw[hi] at G
  rw[aA (by simp)];clear hi h;go_enter func133,ntmps133;go_wp2_with(go_at_call 164;refine G.out.mono ?_;rintro e w' ⟨rfl,rfl⟩);go_ret;exact⟨rfl,rfl⟩
 ·rw[hi] at G
  rw[aB rfl];obtain⟨W,h1⟩:=tz.1 hi;clear hi;obtain⟨j,rfl⟩:=b7 W;have J:j<256:=by omega
  rw[aJ];have HB:=ar (zy j J w);have V:=ar (tA j J w);have U:=ar (nE h ((816+j/64:Nat):Int));rw[yz z (j/64) (by omega)] at U;have ha:=fZ (bw (az B ps) (j/64)) (mG j) (Bt z _) (FP j);have he:((((bw (az B ps) (j/64) &&& mG j:Nat):Int)) != 0)=dx (az B ps) j:=by
   have :=Rc (bw (az B ps) (j/64)) j;unfold dx;rw[Bool.eq_iff_iff,<-this];simp
  generalize bw (az B ps) (j/64) &&& mG j=y at *;generalize bw (az B ps) (j/64)=x at *;generalize mG j=m at *;generalize dx (az B ps) j=u at *;clear h z;go_enter func133,ntmps133;go_wp2_with fail;refine G.out.mono ?_;rintro e w' ⟨rfl,rfl⟩;go_wp2_with fail;refine HB.out.mono ?_;rintro e w' ⟨rfl,rfl⟩;go_wp2_with fail;refine U.out.mono ?_;rintro e w' ⟨rfl,rfl⟩;go_wp2_with fail;refine V.out.mono ?_;rintro e w' ⟨rfl,rfl⟩;go_wp2_with fail;go_ret;exact⟨rfl,rfl⟩
structure oo (X:List Int) (T:List (bN×Value)) (own:Nat->List Nat):Prop where
 len:T.length=32
 each:∀i:Nat,i<32->eP X (i:Int) (nT T i) (own i)\/((∀n o,¬eP X (i:Int) n o)/\nT T i=cX/\own i=[])
theorem Wj (X:List Int):∃T own,oo X T own:=by
 have h:∀i:Nat,∃p:bN×List Nat,eP X (i:Int) p.1 p.2\/((∀n o,¬eP X (i:Int) n o)/\p.1=cX/\p.2=[]):=λi=>by
  by_cases h:∃p:bN×List Nat,eP X (i:Int) p.1 p.2
  ·obtain⟨p,G⟩:=h
   exact⟨p,.inl G⟩
  ·exact⟨(cX,[]),.inr ⟨λn o J=>h ⟨(n,o),J⟩,rfl,rfl⟩⟩
 obtain⟨f,y⟩:=Classical.axiomOfChoice h;refine⟨(List.range 32).map λi=>((f i).1,.slice none 0 0),λi=>(f i).2,by simp,λi z=> ?_⟩;have e:nT ((List.range 32).map λi=>((f i).1,Value.slice none 0 0)) i=(f i).1:=by
  unfold nT;rw[aj,bC,bV z];rfl
 rw[e];exact y i
theorem Jn{i:Int}{n:bN}{o:List Nat}(h:eP X i n o):n.F=1\/n.F=2:=h.right.1
theorem oo.zero(h:oo X T own){i:Nat}(y:32<=i):nT T i=cX:=by
 unfold nT;rw[aj,aP (by rw[h.len];omega)];rfl
theorem oo.form(h:oo X T own)(i:Nat):((nT T i).F≠0/\i<32/\eP X (i:Int) (nT T i) (own i))\/((nT T i).F=0/\nT T i=cX/\(i<32->own i=[]/\∀n o,¬eP X (i:Int) n o)):=by
 rcases dg i 32 with y|y
 ·rcases h.each i y with z|⟨z,G,J⟩
  ·exact .inl ⟨by have :=Jn z;omega,y,z⟩
  ·exact .inr ⟨by rw[G];rfl,G,λ_=>⟨J,z⟩⟩
 ·have :=h.zero y
  exact .inr ⟨by rw[this];rfl,this,λh=>by omega⟩
theorem oo.tabS(h:oo X T own):ZY T:=λi z=>by
 rcases h.form i with ⟨y,-⟩|⟨-,G,-⟩
 ·exact absurd z y
 ·rw[G];rfl
theorem oo.tabR(h:oo X T own):aca T:=λi z G=>by
 rcases h.form i with ⟨-,-,y⟩|⟨y,-⟩
 ·exact y.right
 ·omega
theorem oo.tabN(h:oo X T own):Ph T:=acb h.tabS h.tabR λi z=>by
 rcases h.form i with ⟨-,-,y⟩|⟨y,-⟩
 ·have :=Jn y;omega
 ·omega
theorem oo.get(h:oo X T own){i:Nat}(V:i<32){n:bN}{o:List Nat}{r:Int}(hg:Pb X (i:Int) n o r):
  n=nT T i/\o=own i/\((r=0/\(nT T i).F≠0)\/(r=2/\(nT T i).F=0/\dO X (i:Int))\/(r=10/\(nT T i).F=0/\¬dO X (i:Int))):=by
 rcases hg with ⟨-,W,-⟩|⟨z,-,G,g3,Z⟩|⟨z,-,G,g3,Z,g5⟩|⟨z,W⟩
 ·omega
 ·rcases h.form i with ⟨-,-,e⟩|⟨U,J,y⟩
  ·exact absurd G e.notFree
  ·exact⟨by rw[g3,J],by rw[Z,(y V).1],.inr (.inl ⟨z,U,G⟩)⟩
 ·rcases h.form i with ⟨-,-,e⟩|⟨U,J,y⟩
  ·exact absurd e (g3 _ _)
  ·exact⟨by rw[Z,J],by rw[g5,(y V).1],.inr (.inr ⟨z,U,G⟩)⟩
 ·rcases h.form i with ⟨e0,-,e⟩|⟨U,J,y⟩
  ·obtain⟨rfl,rfl⟩:=e.uniq W
   exact⟨rfl,rfl,.inl ⟨z,e0⟩⟩
  ·exact absurd W ((y V).2 _ _)
theorem oo.succ(h:oo X T own){x:Int}{n:bN}{o:List Nat}{r:Int}(G:Pb X x n o r):n.E.map (·.2)=mW T x:=by
 unfold mW;by_cases y:0<=x/\x<32
 ·obtain⟨j,rfl⟩:=b7 y.1
  rw[aB y,(h.get (i:=j) (by omega) G).1];rfl
 ·rw[aA y]
  rcases G with ⟨-,-,J,-⟩|⟨-,z,-⟩|⟨-,z,-⟩|⟨-,z⟩
  ·rw[J];rfl
  ·exact absurd z y
  ·exact absurd z y
  ·exact absurd z.rng y
theorem oo.elen(h:oo X T own)(i:Nat):(nT T i).E.length<=24:=by
 rcases h.form i with ⟨-,-,y⟩|⟨-,y,-⟩
 ·exact(iZ y.right).1
 ·rw[y];exact eD _
def uR (E:List (ByteArray×Int)) (j i:Nat):Nat:=(E.take j).countP λe=>e.2==(i:Int)
theorem M6 (E:List (ByteArray×Int))(j i:Nat):uR E j i<=j:=
 cJ List.countP_le_length (by rw[aI];omega)
theorem Pr (E:List (ByteArray×Int))(i:Nat):uR E 0 i=0:=by simp[uR]
theorem Ps{E:List (ByteArray×Int)}(y:j<E.length)(i:Nat):uR E (j+1) i=uR E j i+if iC E j=(i:Int) then 1 else 0:=by
 unfold uR;rw[bz y,List.countP_append,List.countP_singleton];have :iC E j=E[j].2:=by simp[iC,y]
 rw[this];by_cases h:E[j].2=(i:Int)<;>simp[h]
def Fe (T:List (bN×Value)):Nat->Nat->Nat
 |0,_=>0
 |k+1,i=>Fe T k i+uR (nT T k).E (nT T k).E.length i
def jQ (T:List (bN×Value)) (i:Nat):Nat:=Fe T 32 i
def jm (T:List (bN×Value)):Nat->List (Nat×bN)
 |0=>[]
 |k+1=>jm T k++if (nT T k).F=0 then [] else [(k,nT T k)]
def sJ:List (Nat×bN)->Nat->Nat
 | [],_=>0
 |p::l,i=>uR p.2.E p.2.E.length i+sJ l i
theorem zX (l m:List (Nat×bN))(i:Nat):sJ (l++m) i=sJ l i+sJ m i:=by
 induction l with
 |nil=>simp[sJ]
 |cons p l ih=>simp[sJ,ih];omega
theorem Tc (y:ZY T)(k i:Nat):sJ (jm T k) i=Fe T k i:=by
 induction k with
 |zero=>rfl
 |succ k ih=>
  unfold jm Fe;rw[zX,ih];by_cases h:(nT T k).F=0
  ·rw[aB h,y k h];rfl
  ·rw[aA h];simp[sJ]
theorem mq{p:Nat×bN}:p∈jm T k↔p.1<k/\p.2=nT T p.1/\p.2.F≠0:=by
 induction k with
 |zero=>simp[jm]
 |succ k ih=>
  unfold jm;rw[aR,ih];constructor
  ·rintro (⟨G,y,z⟩|h)
   ·exact⟨by omega,y,z⟩
   ·split at h
    ·simp at h
    ·next hF=>
     rw[au] at h;subst h;exact⟨by show k<_;omega,rfl,hF⟩
  ·rintro⟨G,y,z⟩
   by_cases e:p.1=k
   ·right
    rw[aA (by rw[<-e,<-y];exact z),au];obtain⟨a,c⟩:=p;cases e;exact b8 (Prod.mk a) y
   ·exact .inl ⟨by omega,y,z⟩
def lW (X:List Int):Prop:=
 X.getD 0 0=7596835243318849792/\(X.getD 1 0=1\/X.getD 1 0=2)/\X.getD 2 0<=32/\(∀i:Nat,3<=i->i<8->X.getD i 0=0)/\∀i:Nat,820<=i->i<824->X.getD i 0=0
def uE (X:List Int) (T:List (bN×Value)):Prop:=∀i:Nat,i<32->dO X (i:Int)\/(nT T i).F≠0
def Jo (X:List Int) (T:List (bN×Value)):Prop:=(nT T 0).K=2/\∀i:Nat,i<32->0<jQ T i->¬dO X (i:Int)
def pJ (i:Nat) (n:bN) (c:Nat):Prop:=(n.K=1->(c:Int)=n.L/\1<=c)/\(n.K=2->n.L=1/\(i=0->c=0)/\(i≠0->c=1))
def tV (T:List (bN×Value)):Prop:=∀i:Nat,i<32->pJ i (nT T i) (jQ T i)
def CN (X:List Int) (T:List (bN×Value)):Prop:=∀i:Nat,i<32->¬dO X (i:Int)->Reach T 0 (i:Int)
def jN (T:List (bN×Value)) (own:Nat->List Nat):Nat->Nat->Nat
 |0,_=>0
 |k+1,b=>jN T own k b+(own k++eU (nT T k)).count b
def xO (T:List (bN×Value)) (own:Nat->List Nat) (b:Nat):Nat:=jN T own 32 b
def M7 (X:List Int) (T:List (bN×Value)) (own:Nat->List Nat):Prop:=∀b:Nat,b<256->xO T own b<=1/\(dx X b=true↔xO T own b=1)
def jO (X:List Int) (n:bN):Prop:=n.K=1->∀k:Nat,k<13->n.B.getD k 0≠0->∀j:Nat,j<64->n.S<=64*(k:Int)+j->pU (X.getD (1080+8*(n.B.getD k 0).toNat+j/8) 0).toNat (j%8)=0
def tX (X:List Int) (T:List (bN×Value)):Prop:=∀i:Nat,i<32->jO X (nT T i)
def pK (X:List Int) (T:List (bN×Value)) (own:Nat->List Nat):Nat->Prop
 |0=>lW X
 |1=>uE X T
 |2=>Jo X T
 |3=>tV T
 |4=>CN X T
 |5=>M7 X T own
 |6=>tX X T
 |_=>True
def Gz (P:Nat->Prop) (k:Nat):Prop:=(k=0/\∀j,j<7->P j)\/(0<k/\k<=7/\¬P (k-1)/\∀j,j<k-1->P j)
theorem Gz.uniq{P:Nat->Prop}{G:Nat}(h:Gz P k)(J:Gz P G):k=G:=by
 rcases h with ⟨rfl,z⟩|⟨h0,h1,z,U⟩
 ·rcases J with ⟨rfl,-⟩|⟨V,Z,y,-⟩
  ·rfl
  ·exact absurd (z _ (by omega)) y
 ·rcases J with ⟨rfl,y⟩|⟨V,Z,y,W⟩
  ·exact absurd (y _ (by omega)) z
  ·rcases Nat.lt_trichotomy k G with e|e|e
   ·exact absurd (W (k-1) (by omega)) z
   ·exact e
   ·exact absurd (U (G-1) (by omega)) y
theorem Pt{n:bN}(Z:n.B.length=13)(W:bR n)(hK:n.K=1):jO X n↔(n.S%64≠0->n.B.getD (n.S/64).toNat 0≠0->∀j:Nat,n.S%64<=(j:Int)->j<64->pU (X.getD (1080+8*(n.B.getD (n.S/64).toNat 0).toNat+j/8) 0).toNat (j%8)=0):=by
 have hS:0<=n.S/\n.S<=832:=by
  rcases W.2.2 with h|h
  ·exact h.2.1
  ·omega
 have U:=Pg Z W;constructor
 ·intro h h0 y j J G
  refine h hK (n.S/64).toNat (by omega) y j G ?_;omega
 ·intro h _ k V y j J aa
  have h1:=(U k V).2 (by have :=(U k V).1;omega);have h2:=h1.2.1;have z:k=(n.S/64).toNat:=by omega
  subst z;exact h (by omega) y j (by omega) J
theorem Pu{n:bN}(v:Value)(hB:n.B.length=13)(hK:n.K=1\/n.K=2)(i c:Nat)(w:World):
  Calls prog 131 #[.int .i64 (i:Int),.agg (aU n v),.int .i64 (c:Int)] w (cW w (pJ i n c)):=by
 have hb:=bf.new w (aU n v) 111;have hk:=(ay.refl [] w).alloc (.cells (aU n v) 111);have y:Hid (∀r:Bool,(r=true↔((n.K=1->(c:Int)=n.L/\1<=c)/\(n.K=2->n.L=1/\(i=0->c=0)/\(i≠0->c=1))))->cW w (pJ i n c) (.returned (.bool r)) (w.alloc (.cells (aU n v) 111))):=λr h=>⟨r,rfl,h,hk⟩
 have c1:(w.alloc (.cells (aU n v) 111)).cell? ⟨w.heap.size,1,none⟩=some (.int .i64 n.K):=by rw[hb.cell];exact(jL v hB).f1
 have c2:(w.alloc (.cells (aU n v) 111)).cell? ⟨w.heap.size,2,none⟩=some (.int .i64 n.L):=by rw[hb.cell];exact(jL v hB).f2
 clear hb hk;generalize aU n v=Z at *;generalize pJ i n c=pP at *;generalize n.K=K at *;generalize n.L=L at *;obtain⟨J,MD⟩:∃J:Int,(c:Int)=J:=⟨_,rfl⟩;obtain⟨ii,V⟩:∃ii:Int,(i:Int)=ii:=⟨_,rfl⟩;have W:=ar MD;have QF:=ar V;rw[MD,V];rw[MD] at y;clear MD V;rcases hK with rfl|rfl
 ·by_cases z:J=L
  ·have b1:(J==L)=true:=by simpa using z
   by_cases U:1<=J
   ·have G:=ar (y.out true ⟨λ_=>⟨λ_=>⟨z,by have :=W.out;omega⟩,λh=>by omega⟩,λ_=>rfl⟩)
    clear y z;go_enter func131,ntmps131;go_wp2_with fail;go_ret;exact G.out
   ·have G:=ar (y.out false ⟨(λh=>by cases h),λh=>by have :=W.out;have :=(h.1 rfl).2;omega⟩)
    clear y z;go_enter func131,ntmps131;go_wp2_with fail;go_ret;exact G.out
  ·have b1:(J==L)=false:=by simpa using z
   have G:=ar (y.out false ⟨(λh=>by cases h),λh=>absurd (h.1 rfl).1 z⟩);clear y z;go_enter func131,ntmps131;go_wp2_with fail;go_ret;exact G.out
 ·by_cases e0:ii=0
  ·subst e0
   by_cases z:L=1
   ·subst z
    by_cases U:J=0
    ·subst U
     have G:=ar (y.out true ⟨λ_=>⟨λh=>by omega,λ_=>⟨rfl,λ_=>by have :=W.out;omega,λh=>by have :=QF.out;omega⟩⟩,λ_=>rfl⟩);clear y;go_enter func131,ntmps131;go_wp2_with fail;go_ret;exact G.out
    ·have b2:(J==0)=false:=by simpa using U
     have G:=ar (y.out false ⟨(λh=>by cases h),λh=>by have :=(h.2 rfl).2.1 (by have :=QF.out;omega);have :=W.out;omega⟩);clear y U;go_enter func131,ntmps131;go_wp2_with fail;go_ret;exact G.out
   ·have b1:(L==1)=false:=by simpa using z
    have G:=ar (y.out false ⟨(λh=>by cases h),λh=>absurd (h.2 rfl).1 z⟩);clear y z;go_enter func131,ntmps131;go_wp2_with fail;go_ret;exact G.out
  ·have b0:(ii==0)=false:=by simpa using e0
   by_cases z:L=1
   ·subst z
    by_cases U:J=1
    ·subst U
     have G:=ar (y.out true ⟨λ_=>⟨λh=>by omega,λ_=>⟨rfl,λh=>by have :=QF.out;omega,λ_=>by have :=W.out;omega⟩⟩,λ_=>rfl⟩);clear y e0;go_enter func131,ntmps131;go_wp2_with fail;go_ret;exact G.out
    ·have b2:(J==1)=false:=by simpa using U
     have G:=ar (y.out false ⟨(λh=>by cases h),λh=>by have :=(h.2 rfl).2.2 (by have :=QF.out;omega);have :=W.out;omega⟩);clear y U e0;go_enter func131,ntmps131;go_wp2_with fail;go_ret;exact G.out
   ·have b1:(L==1)=false:=by simpa using z
    have G:=ar (y.out false ⟨(λh=>by cases h),λh=>absurd (h.2 rfl).1 z⟩);clear y z e0;go_enter func131,ntmps131;go_wp2_with fail;go_ret;exact G.out
def AA (i:Int) (x:Int):Prop:=(i=0->x=7596835243318849792)/\(i=1->x=1\/x=2)/\(i=2->x<=32)/\(2<i->x=0)
def Ff (w:World) (p:Prop) (e:Ending) (w':World):Prop:=(∃r:Bool,e= .returned (.bool r)/\(r=true↔p))/\w=w'
theorem DU (i x:Int)(hi:0<=i)(w:World):
  Calls prog 126 #[.int .i64 i,.int .u64 x] w (Ff w (AA i x)):=by
 have y:Hid (∀r:Bool,(r=true↔((i=0->x=7596835243318849792)/\(i=1->x=1\/x=2)/\(i=2->x<=32)/\(2<i->x=0)))->Ff w (AA i x) (.returned (.bool r)) w):=λr h=>⟨⟨r,rfl,h⟩,rfl⟩
 generalize AA i x=pP at *;by_cases U:i=0
 ·subst U
  by_cases J:x=7596835243318849792
  ·have z:=ar (y.out true ⟨λ_=>⟨λ_=>J,by omega,by omega,by omega⟩,λ_=>rfl⟩)
   have W:(x==7596835243318849792)=true:=by simpa using J
   clear y J;go_enter func126,ntmps126;go_wp2_with fail;go_ret;exact z.out
  ·have z:=ar (y.out false ⟨(λh=>by cases h),λh=>absurd (h.1 rfl) J⟩)
   have W:(x==7596835243318849792)=false:=by simpa using J
   clear y J;go_enter func126,ntmps126;go_wp2_with fail;go_ret;exact z.out
 ·have b0:(i==0)=false:=by simpa using U
  by_cases J:i=1
  ·subst J
   by_cases V:x=1
   ·subst V
    have z:=ar (y.out true ⟨λ_=>⟨by omega,λ_=> .inl rfl,by omega,by omega⟩,λ_=>rfl⟩);clear y U;go_enter func126,ntmps126;go_wp2_with fail;go_ret;exact z.out
   ·have b2:(x==1)=false:=by simpa using V
    by_cases G:x=2
    ·subst G
     have z:=ar (y.out true ⟨λ_=>⟨by omega,λ_=> .inr rfl,by omega,by omega⟩,λ_=>rfl⟩);clear y U V;go_enter func126,ntmps126;go_wp2_with fail;go_ret;exact z.out
    ·have Z:(x==2)=false:=by simpa using G
     have z:=ar (y.out false ⟨(λh=>by cases h),λh=>by have :=h.2.1 rfl;omega⟩);clear y U V G;go_enter func126,ntmps126;go_wp2_with fail;go_ret;exact z.out
  ·have W:(i==1)=false:=by simpa using J
   by_cases V:i=2
   ·subst V
    by_cases G:x<=32
    ·have z:=ar (y.out true ⟨λ_=>⟨by omega,by omega,λ_=>G,by omega⟩,λ_=>rfl⟩)
     clear y U J;go_enter func126,ntmps126;go_wp2_with fail;go_ret;simpa[G] using z.out
    ·have z:=ar (y.out false ⟨(λh=>by cases h),λh=>absurd (h.2.2.1 rfl) G⟩)
     clear y U J;go_enter func126,ntmps126;go_wp2_with fail;go_ret;simpa[G] using z.out
   ·have b2:(i==2)=false:=by simpa using V
    by_cases G:x=0
    ·subst G
     have z:=ar (y.out true ⟨λ_=>⟨by omega,by omega,by omega,λ_=>rfl⟩,λ_=>rfl⟩);clear y U J V;go_enter func126,ntmps126;go_wp2_with fail;go_ret;exact z.out
    ·have Z:(x==0)=false:=by simpa using G
     have z:=ar (y.out false ⟨(λh=>by cases h),λh=>absurd (h.2.2.2 (by omega)) G⟩);clear y U J V G;go_enter func126,ntmps126;go_wp2_with fail;go_ret;exact z.out
structure fX (w:World) (b gp:Nat) (B:List Int) (ps:List (Int×Int)) (T:List (bN×Value)) (own:Nat->List Nat):Prop where
 sh:eT w b gp B ps
 w64:In64 (az B ps)
 gots:oo (az B ps) T own
 lt:b<w.heap.size/\gp<w.heap.size
theorem fX.keep{z:Nat}(h:fX w b z B ps T own){l:List Nat}(G:ay l w w')(J:∀k∈l,w.heap.size<=k\/(k≠b/\k≠z)):fX w' b z B ps T own:=
 ⟨h.sh.keep G (λy=>by have :=J _ y;have :=h.lt;omega) (λy=>by have :=J _ y;have :=h.lt;omega),h.w64,h.gots,by have :=h.lt;have :=G.size;omega⟩
theorem fX.keep0{y:Nat}(h:fX w b y B ps T own)(z:ay [] w w'):fX w' b y B ps T own:=h.keep z (by simp)
def A1 (w:World) (X:List Int) (T:List (bN×Value)) (own:Nat->List Nat) (i:Nat) (e:Ending) (w':World):Prop:=
 ∃v g h y r,e= .returned (.tuple #[.agg (aU (nT T i) v),h,.int .i64 r])/\(nT T i).B.length=13/\br w' v g (nT T i).E/\w.heap.size<=g/\kb w' h y (own i)/\w.heap.size<=y/\ay [] w w'/\
  ((r=0/\(nT T i).F≠0)\/(r=2/\(nT T i).F=0/\dO X (i:Int))\/(r=10/\(nT T i).F=0/\¬dO X (i:Int)))
theorem fX.get(h:fX w b gp B ps T own){i:Nat}(z:i<32):
  Calls prog 97 #[.pointer (some ⟨b,0,none⟩),.int .i64 (i:Int)] w (A1 w (az B ps) T own i):=by
 refine(get_at h.sh h.w64 (i:Int)).mono ?_;rintro e w' ⟨n,v,g,o,W,V,r,rfl,y,J,hg,hO,G,Z,hr⟩;obtain⟨rfl,rfl,U⟩:=h.gots.get z hr;exact⟨v,g,W,V,r,rfl,y,J,hg,hO,G,Z,U⟩
theorem fX.below{V:Nat}(h:fX w b V B ps T own)(d i:Int):
  Calls prog 114 #[.pointer (some ⟨b,0,none⟩),.int .i64 d,.int .i64 i] w (cW w (Reach T d i)):=
 LK (λx wx y=>by
  refine(get_at (h.keep0 y).sh h.w64 x).mono ?_;rintro e w' ⟨n,v,g,o,va,ga,r,rfl,z,G,W,U,Z,y,J⟩;obtain⟨a,cap,rfl,-,-,-⟩:=U.reads;exact⟨n,v,g,a,_,cap,r,rfl,z,G,W,h.gots.succ J,y⟩) h.gots.tabN d i
theorem Jp{i:Nat}(h:i<3128):Dl B ps (i:Int)=(az B ps).getD i 0:=by
 unfold Dl;rw[aB (by omega),aJ]
theorem Pv (X:List Int):lW X↔(∀i:Nat,i<8->AA (i:Int) (X.getD i 0))/\∀k:Nat,k<4->X.getD (820+k) 0=0:=by
 unfold lW AA;constructor
 ·rintro⟨V,G,y,z,W⟩
  refine⟨λi J=>⟨λe=> ?_,λe=> ?_,λe=> ?_,λe=>z i (by omega) J⟩,λk Z=>W _ (by omega) (by omega)⟩
  ·obtain rfl:i=0:=by omega
   exact V
  ·obtain rfl:i=1:=by omega
   exact G
  ·obtain rfl:i=2:=by omega
   exact y
 ·rintro⟨h,g⟩
  refine⟨(h 0 (by omega)).1 rfl,(h 1 (by omega)).2.1 rfl,(h 2 (by omega)).2.2.1 rfl,λi z U=>(h i U).2.2.2 (by omega),λi G y=> ?_⟩;have :=g (i-820) (by omega);rwa[show 820+(i-820)=i by omega] at this
theorem DV (h:eT w b gp B ps):
  Calls prog 81 #[.pointer (some ⟨b,0,none⟩)] w (cW w (lW (az B ps))):=by
 have HG:Hid (∀i:Nat,i<3128->Calls prog 127 #[.pointer (some ⟨b,0,none⟩),.int .i64 (i:Int)] w λe w'=>e= .returned (.int .u64 ((az B ps).getD i 0))/\w=w'):=λi hi=>by
  have :=nE h (i:Int);rwa[Jp hi] at this
 have HP:Hid (∀r:Bool,(r=true↔(∀i:Nat,i<8->AA (i:Int) ((az B ps).getD i 0))/\∀k:Nat,k<4->(az B ps).getD (820+k) 0=0)->cW w (lW (az B ps)) (.returned (.bool r)) w):=λr hr=>⟨r,rfl,hr.trans (Pv _).symm,ay.refl _ _⟩
 clear h;generalize az B ps=X at *;generalize lW X=pS at *;go_enter func81,ntmps81;go_wp2_with fail;go_loopg [3] 8 (λgh s3 wx=>w=wx/\∃k:Nat,k+gh=8/\s3= .int .i64 (k:Int)/\Hid (∀i:Nat,i<k->AA (i:Int) (X.getD i 0)))
 case atStart=>exact⟨rfl,0,by omega,rfl,λi hi=>by omega⟩
 case round=>
  obtain⟨rfl,k,hk,rfl,J⟩:=hrel;cases gk with
  |succ gg=>
   have ya:(k:Int)<8:=by omega
   have eo:(0:Int)<=(k:Int):=by omega
   have Z:=ar (HG.out k (by omega));have N8:=ar (DU (k:Int) (X.getD k 0) eo);have y:Hid (AA (k:Int) (X.getD k 0)->∀i:Nat,i<k+1->AA (i:Int) (X.getD i 0)):=λU i hi=>by
    by_cases e:i=k
    ·rw[e];exact U
    ·exact J.out i (by omega)
   have G:Hid (¬AA (k:Int) (X.getD k 0)->¬((∀i:Nat,i<8->AA (i:Int) (X.getD i 0))/\∀k:Nat,k<4->X.getD (820+k) 0=0)):=λU W=>U (W.1 k (by omega))
   generalize X.getD k 0=x at *;clear J HG;go_wp2_with fail;refine Z.out.mono ?_;rintro e w1 ⟨rfl,rfl⟩;clear Z;go_wp2_with fail;refine(N8.out _).mono ?_;rintro e w1 ⟨⟨r,rfl,hr⟩,rfl⟩;clear N8;cases r
   ·have HF:=ar (HP.out false ⟨(λh=>by cases h),λW=>absurd W (G.out λU=>by cases hr.2 U)⟩)
    clear y G HP hr;go_wp2_with fail;go_ret;exact HF.out
   ·have HN:=ar (y.out (hr.1 rfl))
    clear y G hr;go_wp2_with fail;go_roundg gg;case measure=>omega
    case rel=>exact⟨rfl,k+1,by omega,by go_num,HN.out⟩
  |zero=>
   obtain rfl:k=8:=by omega
   have H8:=ar J.out;clear J hk;go_wp2_with fail;go_loopg [4] 4 (λgh s4 wx=>w=wx/\∃k:Nat,k+gh=4/\s4= .int .i64 ((820+k:Nat):Int)/\Hid (∀i:Nat,i<k->X.getD (820+i) 0=0))
   case atStart=>exact⟨rfl,0,by omega,rfl,λi hi=>by omega⟩
   case round=>
    obtain⟨rfl,k,hk,rfl,J⟩:=hrel;have Z:Hid (k<4->Calls prog 127 #[.pointer (some ⟨b,0,none⟩),.int .i64 ((820+k:Nat):Int)] w λe w'=>e= .returned (.int .u64 (X.getD (820+k) 0))/\w=w'):=λac=>HG.out (820+k) (by omega)
    have y:Hid (X.getD (820+k) 0=0->∀i:Nat,i<k+1->X.getD (820+i) 0=0):=λU i hi=>by
     by_cases e:i=k
     ·rw[e];exact U
     ·exact J.out i (by omega)
    have G:Hid (k<4->X.getD (820+k) 0≠0->¬((∀i:Nat,i<8->AA (i:Int) (X.getD i 0))/\∀k:Nat,k<4->X.getD (820+k) 0=0)):=λh4 U W=>U (W.2 k h4)
    obtain⟨q,hq⟩:∃q,820+k=q:=⟨_,rfl⟩;rw[hq] at Z y G;rw[hq];have HQ:=ar hq;generalize X.getD q 0=x at *;cases gk with
    |succ g2=>
     have aa:(q:Int)<824:=by omega
     have ae:(0:Int)<=(q:Int):=by omega
     have z:=ar (Z.out (by omega));have V:k<4:=by omega
     clear Z J HG H8 hq;by_cases hx:x=0
     ·subst hx
      have HN:=ar (y.out rfl);clear y G V;go_wp2_with fail;refine z.out.mono ?_;rintro e w1 ⟨rfl,rfl⟩;clear z;go_wp2_with fail;go_roundg g2;case measure=>omega
      case rel=>exact⟨rfl,k+1,by omega,by have :=HQ.out;go_num,HN.out⟩
     ·have hb:(x != 0)=true:=bne_iff_ne.2 hx
      have HF:=ar (HP.out false ⟨(λh=>by cases h),λW=>absurd W (G.out V hx)⟩);clear y G HP hx V;go_wp2_with fail;refine z.out.mono ?_;rintro e w1 ⟨rfl,rfl⟩;clear z;go_wp2_with fail;go_ret;exact HF.out
    |zero=>
     obtain rfl:k=4:=by omega
     have aa:¬(q:Int)<824:=by omega
     have HF:=ar (HP.out true ⟨λ_=>⟨H8.out,J.out⟩,λ_=>rfl⟩);clear y G HP Z J H8 HG hq;go_wp2_with fail;go_ret;exact HF.out
theorem Pw (h:fX w b gp B ps T own):
  Calls prog 82 #[.pointer (some ⟨b,0,none⟩)] w (cW w (uE (az B ps) T)):=by
 have HG:Hid (∀J,ay [] w J->∀i:Nat,i<32->Calls prog 97 #[.pointer (some ⟨b,0,none⟩),.int .i64 (i:Int)] J (A1 J (az B ps) T own i)):=λJ hk i W=>(h.keep0 hk).get W
 have HP:Hid (∀(r:Bool) w',(r=true↔∀i:Nat,i<32->dO (az B ps) (i:Int)\/(nT T i).F≠0)->ay [] w w'->cW w (uE (az B ps) T) (.returned (.bool r)) w'):=λr w' hr hk=>⟨r,rfl,hr,hk⟩
 have xB:=fu;obtain⟨Z,ze⟩:∃Z,aU cX (.slice none 0 0)=Z:=⟨_,rfl⟩;have De:Hid (Z.size=18):=by show _=_;rw[<-ze];rfl
 rw[ze] at xB;clear h ze;generalize uE (az B ps) T=pP at *;generalize az B ps=X at *;go_enter func82,ntmps82;go_wp2_with fail;go_loopg [7] 32 (λgh s7 J=>∃k:Nat,k+gh=32/\s7= .int .i64 (k:Int)/\Hid (ay [] w J/\∀i:Nat,i<k->dO X (i:Int)\/(nT T i).F≠0))
 case atStart=>exact⟨0,by omega,rfl,ay.refl _ _,λi W=>by omega⟩
 case round=>
  obtain⟨k,hk,rfl,z⟩:=hrel;cases gk with
  |zero=>
   obtain rfl:k=32:=by omega
   have HF:=ar (HP.out true _ ⟨λ_=>z.out.2,λ_=>rfl⟩ z.out.1);clear z HP HG;go_wp2_with fail;go_ret;exact HF.out
  |succ gg=>
   have ya:(k:Int)<32:=by omega
   have qT:k<32:=by omega
   have Uw:=ar (HG.out _ z.out.1 k qT);clear HG;go_wp2_with fail;refine Uw.out.mono ?_;rintro e w3 ⟨v,g,va,ga,r,rfl,hB,hE,hg,hO,sG,V,hr⟩;obtain⟨w4,p1,p2,p3⟩:=fW (n:=nT T k) (v:=v) (bf.new w3 Z 111) De.out hB hE.one;have wQ:=ar p1;have oN:Hid (ay [] w w4):=(z.out.1.trans' V).trans' (((ay.refl [] w3).alloc _).trans p3 (by intro x hx;rw[au] at hx;omega));have G:=ar hr;have y:=ar z.out.2;clear hB hE hg hO sG V hr p1 p2 p3 z Uw;generalize aU (nT T k) v=ZN at *;by_cases U:r=0
   ·subst U
    have HN:Hid (∀i:Nat,i<k+1->dO X (i:Int)\/(nT T i).F≠0):=λi W=>by
     by_cases e:i=k
     ·rw[e]
      rcases G.out with ⟨-,h⟩|⟨h,-⟩|⟨h,-⟩
      ·exact .inr h
      ·omega
      ·omega
     ·exact y.out i (by omega)
    clear G y;go_wp2_with(with_reducible refine gS 111 wQ.out ?_);go_roundg gg;case measure=>omega
    case rel=>exact⟨k+1,by omega,by go_num,oN.out,HN.out⟩
   ·have b0:(r != 0)=true:=bne_iff_ne.2 U
    by_cases h2:r=2
    ·subst h2
     have HN:Hid (∀i:Nat,i<k+1->dO X (i:Int)\/(nT T i).F≠0):=λi W=>by
      by_cases e:i=k
      ·rw[e]
       rcases G.out with ⟨h,-⟩|⟨-,-,h⟩|⟨h,-⟩
       ·omega
       ·exact .inl h
       ·omega
      ·exact y.out i (by omega)
     clear G y U;go_wp2_with(with_reducible refine gS 111 wQ.out ?_);go_roundg gg;case measure=>omega
     case rel=>exact⟨k+1,by omega,by go_num,oN.out,HN.out⟩
    ·have b2:(r != 2)=true:=bne_iff_ne.2 h2
     have HF:Hid (cW w pP (.returned (.bool false)) w4):=HP.out false _ ⟨(λh=>by cases h),λhh=>by
      rcases G.out with ⟨h,-⟩|⟨h,-⟩|⟨-,h3,h4⟩
      ·exact absurd h U
      ·exact absurd h h2
      ·rcases hh k qT with h|h
       ·exact absurd h h4
       ·exact absurd h3 h⟩ oN.out
     clear G y U h2 HP;go_wp2_with(with_reducible refine gS 111 wQ.out ?_);go_ret;exact HF.out
theorem DW (h:fX w b gp B ps T own):
  Calls prog 85 #[.pointer (some ⟨b,0,none⟩)] w (cW w (CN (az B ps) T)):=by
 have Az:Hid (∀G,ay [] w G->∀i:Nat,i<32->Calls prog 129 #[.pointer (some ⟨b,0,none⟩),.int .i64 (i:Int)] G λe w'=>e= .returned (.bool (decide (dO (az B ps) (i:Int))))/\ay [] G w'):=λG Z i hi=>by
  have :=AZ (h.keep0 Z).sh (i:Int);rwa[show decide ((0<=(i:Int)/\(i:Int)<32)/\dO (az B ps) (i:Int))=decide (dO (az B ps) (i:Int)) by rw[decide_eq_decide];exact⟨λh=>h.2,λh=>⟨⟨by omega,by omega⟩,h⟩⟩] at this
 have J:Hid (∀G,ay [] w G->∀i:Nat,Calls prog 114 #[.pointer (some ⟨b,0,none⟩),.int .i64 0,.int .i64 (i:Int)] G (cW G (Reach T 0 (i:Int)))):=λG Z i=>(h.keep0 Z).below 0 (i:Int)
 have HP:Hid (∀(r:Bool) w',(r=true↔∀i:Nat,i<32->¬dO (az B ps) (i:Int)->Reach T 0 (i:Int))->ay [] w w'->cW w (CN (az B ps) T) (.returned (.bool r)) w'):=λr w' hr Z=>⟨r,rfl,hr,Z⟩
 clear h;generalize CN (az B ps) T=pP at *;generalize az B ps=X at *;go_enter func85,ntmps85;go_wp2_with fail;go_loopg [4] 32 (λgh s4 G=>∃k:Nat,k+gh=32/\s4= .int .i64 (k:Int)/\Hid (ay [] w G/\∀i:Nat,i<k->¬dO X (i:Int)->Reach T 0 (i:Int)))
 case atStart=>exact⟨0,by omega,rfl,ay.refl _ _,λi hi=>by omega⟩
 case round=>
  obtain⟨k,Z,rfl,U⟩:=hrel;cases gk with
  |zero=>
   obtain rfl:k=32:=by omega
   have HF:=ar (HP.out true _ ⟨λ_=>U.out.2,λ_=>rfl⟩ U.out.1);clear U HP Az J;go_wp2_with fail;go_ret;exact HF.out
  |succ gg=>
   have ya:(k:Int)<32:=by omega
   have qT:k<32:=by omega
   have W:=ar (Az.out _ U.out.1 k qT);have y:=ar U.out.2;have rL:=ar U.out.1;clear U Az;by_cases V:dO X (k:Int)
   ·rw[bh V] at W
    have HN:Hid (∀i:Nat,i<k+1->¬dO X (i:Int)->Reach T 0 (i:Int)):=λi hi hn=>by
     by_cases e:i=k
     ·rw[e] at hn;exact absurd V hn
     ·exact y.out i (by omega) hn
    clear V y J;go_wp2_with fail;refine W.out.mono ?_;rintro e w1 ⟨rfl,z⟩;have jl:=ar (rL.out.trans' z);clear z W rL;go_wp2_with fail;go_roundg gg;case measure=>omega
    case rel=>exact⟨k+1,by omega,by go_num,jl.out,HN.out⟩
   ·rw[aM V] at W
    have Ur:=ar V;clear V;go_wp2_with fail;refine W.out.mono ?_;rintro e w1 ⟨rfl,z⟩;have jl:=ar (rL.out.trans' z);have qD:=ar (J.out _ jl.out k);clear z W rL J;go_wp2_with fail;refine qD.out.mono ?_;rintro e w2 ⟨r,rfl,hr,aa⟩;have fF:=ar (jl.out.trans' aa);have HR:=ar hr;clear aa hr jl qD;cases r
    ·have HF:=ar (HP.out false _ ⟨(λh=>by cases h),λhh=>HR.out.2 (hh k qT Ur.out)⟩ fF.out)
     clear HP HR y Ur;go_wp2_with fail;go_ret;exact HF.out
    ·have HN:Hid (∀i:Nat,i<k+1->¬dO X (i:Int)->Reach T 0 (i:Int)):=λi hi hn=>by
      by_cases e:i=k
      ·rw[e];exact HR.out.1 rfl
      ·exact y.out i (by omega) hn
     clear HP HR y Ur;go_wp2_with fail;go_roundg gg;case measure=>omega
     case rel=>exact⟨k+1,by omega,by go_num,fF.out,HN.out⟩
def cL (n:Nat) (f:Nat->Nat):List Nat:=(List.range n).map f
theorem nA (n:Nat)(f:Nat->Nat):(cL n f).length=n:=by simp[cL]
theorem LM (h:j<n):(cL n f).getD j 0=f j:=by
 unfold cL;rw[aj,bC,bV h];rfl
theorem tY (h:j<n):(cM (cL n f)).toArray[j]? =some (.int .i64 (f j:Int)):=by
 rw[aC,nL (by rw[nA];exact h),LM h]
theorem pL (h:∀j,j<n->f j=f' j):cL n f=cL n f':=by
 unfold cL;exact dL λj y=>h j (bP.1 y)
theorem LN (f:Nat->Nat){y:Nat}(x:Nat):(cL n f).set y x=cL n λq=>if q=y then x else f q:=by
 unfold cL;apply dB (by simp);intro j J z;have G:j<n:=by simpa using z
 rw[List.getElem_set];simp only[fQ,iQ];by_cases e:y=j
 ·subst e;simp
 ·rw[aA e,aA (λh=>e h.symm)]
theorem GA{T:Nat}(h:bf w g (cM (cL n f)).toArray T){j:Nat}(y:j<n):w.cell? ⟨g,j,none⟩=some (.int .i64 (f j:Int)):=by
 rw[h.cell,tY y]
theorem Jq{T:Nat}(G:bf w g (cM (cL n f)).toArray T)(y:Nat)(h:∀q,q<n->f' q=if q=y then f y+1 else f q){x:Int}(z:x=((f y+1:Nat):Int)):bf (w.setCell ⟨g,y,none⟩ (.int .i64 x)) g (cM (cL n f')).toArray T:=by
 subst z;have :=G.set y (.int .i64 ((f y+1:Nat):Int));rw[ag] at this;have J:(cM (cL n f)).set y (.int .i64 ((f y+1:Nat):Int))=cM ((cL n f).set y (f y+1)):=by simp[cM,List.map_set]
 rw[J,LN,<-pL h] at this;exact this
theorem Jr (w:World):(zeroValue 182).run prog w= .ok (.agg (cM (cL 32 λ_=>0)).toArray) w:=by kernel_rfl
theorem Px (w:World):(zeroValue 189).run prog w= .ok (.agg (cM (cL 256 λ_=>0)).toArray) w:=by kernel_rfl
theorem Js:(prog.info? 182).map (·.size)=some 32:=by kernel_rfl
theorem Py:(prog.info? 189).map (·.size)=some 256:=by kernel_rfl
theorem Td (l:List Nat):∀u∈cM l,u.oneCell'=true:=by
 intro u h;unfold cM at h;obtain⟨x,-,rfl⟩:=bL.1 h;rfl
theorem Jt{T:Nat}(h:bf w g (cM (cL 32 f)).toArray T):(loadVar 182 ⟨g,0,none⟩).run prog w= .ok (.agg (cM (cL 32 f)).toArray) w:=
 bE g 0 (cM (cL 32 f)) underlying182 rfl (by rw[gD,nA];exact Js) λj y=>by
  rw[h.cell,aV,aC]
theorem Pz{T:Nat}(h:bf w g (cM (cL 256 f)).toArray T):(loadVar 189 ⟨g,0,none⟩).run prog w= .ok (.agg (cM (cL 256 f)).toArray) w:=
 bE g 0 (cM (cL 256 f)) underlying189 rfl (by rw[gD,nA];exact Py) λj y=>by
  rw[h.cell,aV,aC]
theorem Fg{T:Nat}(h:bf w g (cM (cL 32 f)).toArray T):
  ∃w',(storeVar 182 ⟨g,0,none⟩ (.agg (cM (cL 32 f')).toArray)).run prog w= .ok () w'/\bf w' g (cM (cL 32 f')).toArray T/\ay [g] w w':=
 bo (P:= prog) (ty:= 182) (cs:=cM (cL 32 f')) (by rw[gD,nA];exact Js) h (by rw[bH,gD,gD,nA,nA]) (Td _)
def wE (T:List (bN×Value)) (own:Nat->List Nat) (i:Nat):List Nat:=own i++eU (nT T i)
theorem uF{n:bN}(z:n.B.length=13)(J:bR n):∀c∈eU n,c≠0/\c<256:=λc y=>by
 unfold eU fK at y;obtain⟨x,h,rfl⟩:=bL.1 y;rw[List.mem_filter] at h;obtain⟨k,G,e⟩:=bU (bQ h.1);have U:=uy J z k;rw[aj,aF G,gZ,e] at U;have V:x≠0:=by simpa using h.2
 omega
theorem oo.all(h:oo X T own)(i:Nat)(G:i<32):(∀c∈wE T own i,c≠0/\c<256)/\(wE T own i).length<=45:=by
 unfold wE;rcases h.form i with ⟨-,-,y⟩|⟨-,y,J⟩
 ·refine⟨λc z=> ?_,?_⟩
  ·rcases aR.1 z with z|z
   ·exact y.mem c z
   ·exact uF y.len y.right c z
  ·rw[aD]
   have U:=y.ownLen;have W:=CD y.right;have V:(eU (nT T i)).length<=13:=CJ _ _;omega
 ·rw[(J G).1,y]
  have :eU cX=[]:=by decide
  rw[this];exact⟨λc z=>by simp at z,by simp⟩
theorem fX.all(h:fX w b Z B ps T own){i:Nat}(G:i<32):
  Calls prog 132 #[.pointer (some ⟨b,0,none⟩),.int .i64 (i:Int)] w λe w'=>∃v g,e= .returned v/\Reads w' v g (cM (wE T own i))/\ay [] w w'/\(wE T own i≠[]->w.heap.size<=g):=by
 refine(Wc h.sh h.w64 (i:Int)).mono ?_;rintro e w' ⟨v,g,l,rfl,W,V,U,hg⟩;have e:l=wE T own i:=by
  unfold wE;rcases h.gots.form i with ⟨-,-,z⟩|⟨-,z,J⟩
  ·rcases U with ⟨n,o,y,rfl⟩|⟨y,-⟩
   ·obtain⟨e1,e2⟩:=z.uniq y
    rw[e1,e2]
   ·exact absurd z (y _ _)
  ·rcases U with ⟨n,o,y,-⟩|⟨-,rfl⟩
   ·exact absurd y ((J G).2 _ _)
   ·rw[(J G).1,z]
    rfl
 subst e;exact⟨v,g,rfl,W,V,hg⟩
theorem Ju {T:List (bN×Value)}{own:Nat->List Nat}(h:∀i,i<32->(wE T own i).length<=45):∀k b,k<=32->jN T own k b<=45*k
 |0,_,_=>eD _
 |k+1,b,hk=>by
  have G:=Ju h k b (by omega);have y:=h k (by omega);have z:(own k++eU (nT T k)).count b<=_:=List.count_le_length;unfold wE at y;show jN T own k b+_<=_;omega
theorem AB {l:List Nat}{j:Nat}(y:j<l.length)(b:Nat):(l.take (j+1)).count b=if b=l.getD j 0 then (l.take j).count b+1 else (l.take j).count b:=by
 rw[bz y,List.count_append,List.count_singleton];have :l.getD j 0=l[j]:=by rw[aj,aF y];rfl
 rw[this];by_cases e:b=l[j]
 ·subst e;simp
 ·rw[aA e]
  simp;exact λh=>e h.symm
theorem DX (h:fX w b gp B ps T own):
  Calls prog 86 #[.pointer (some ⟨b,0,none⟩)] w (cW w (M7 (az B ps) T own)):=by
 have nt:Hid (∀U,ay [] w U->∀i:Nat,i<32->Calls prog 132 #[.pointer (some ⟨b,0,none⟩),.int .i64 (i:Int)] U λe w'=>∃v g,e= .returned v/\Reads w' v g (cM (wE T own i))/\ay [] U w'/\(wE T own i≠[]->U.heap.size<=g)):=λU hk i hi=>(h.keep0 hk).all hi
 have aa:Hid (∀U,ay [] w U->∀c:Nat,c<256->Calls prog 133 #[.pointer (some ⟨b,0,none⟩),.int .i64 (c:Int)] U λe w'=>e= .returned (.bool (dx (az B ps) c))/\U=w'):=λU hk c hc=>by
  have :=Pq (h.keep0 hk).sh h.w64 (c:Int);rwa[Tb,aB (tz.2 ⟨by omega,by omega⟩),aJ] at this
 have av:Hid (∀i,i<32->(∀c∈wE T own i,c≠0/\c<256)/\(wE T own i).length<=45):=λi hi=>h.gots.all i hi
 have ai:Hid (∀k c,k<=32->jN T own k c<=45*k):=Ju λi hi=>(h.gots.all i hi).2
 have W9:Hid (∀k c,jN T own (k+1) c=jN T own k c+(wE T own k).count c):=λk c=>rfl
 have HP:Hid (∀(r:Bool) w',(r=true↔∀b:Nat,b<256->jN T own 32 b<=1/\(dx (az B ps) b=true↔jN T own 32 b=1))->ay [] w w'->cW w (M7 (az B ps) T own) (.returned (.bool r)) w'):=λr w' hr hk=>⟨r,rfl,hr,hk⟩
 have aW:=Px;have nW:Hid (bf (w.alloc (.cells (cM (cL 256 λ_=>0)).toArray 189)) w.heap.size (cM (cL 256 λc=>jN T own 0 c)).toArray 189):=bf.new w _ _;have gH:Hid (ay [] w (w.alloc (.cells (cM (cL 256 λ_=>0)).toArray 189))):=(ay.refl [] w).alloc _;clear h;generalize M7 (az B ps) T own=pP at *;generalize az B ps=X at *;generalize jN T own=J at *;generalize wE T own=W at *;generalize (cM (cL 256 λ_=>0)).toArray=Z0 at *;go_enter func86,ntmps86;go_wp2_with fail;go_loopg [9] 32 (λgh s9 U=>∃k:Nat,k+gh=32/\s9= .int .i64 (k:Int)/\Hid (ay [] w U/\bf U w.heap.size (cM (cL 256 λc=>J k c)).toArray 189))
 case atStart=>exact⟨0,by omega,rfl,gH.out,nW.out⟩
 case round=>
  clear nW gH;obtain⟨k,hk,rfl,G⟩:=hrel;cases gk with
  |succ gg=>
   have ya:(k:Int)<32:=by omega
   have qT:k<32:=by omega
   have aO:=ar (nt.out _ G.out.1 k qT);obtain⟨aH,aV⟩:=av.out k qT;have aC:=ar aH;have Ge:=ar (λc=>ai.out k c (by omega));have aU:=G.out.2.lt;clear aH nt av aa HP;go_wp2_with fail;refine aO.out.mono ?_;rintro e w3 ⟨v,g,rfl,hr,ak,hg⟩;obtain⟨a,cap,rfl,ag,aS,ah⟩:=hr;rw[gD] at ag ah ⊢;have aL:Hid (W k≠[]->g≠w.heap.size):=λh0=>by have :=hg h0;omega
   have Ux:Hid (∀j,j<(W k).length->∃off,a=some ⟨g,off,none⟩/\g<w3.heap.size/\w3.cell? ⟨g,off+j,none⟩=some (.int .i64 (((W k).getD j 0:Nat):Int))/\g≠w.heap.size):=λj hj=>by
    have aG:W k≠[]:=λe=>by rw[e] at hj;simp at hj
    obtain⟨h1,off,h2,h3⟩:=ah (λe=>aG (by unfold cM at e;simpa using e));exact⟨off,h2,h1,by rw[h3 j hj,nL hj],aL.out aG⟩
   have p9:Hid (bf w3 w.heap.size (cM (cL 256 λc=>J k c+((W k).take 0).count c)).toArray 189):=G.out.2.keep ak (by simp);have lV:=ar (G.out.1.trans' ak);have ae:=ar (λj hj=> @AB (W k) j hj);have Z:Hid (∀U,bf U w.heap.size (cM (cL 256 λc=>J k c+((W k).take (W k).length).count c)).toArray 189->bf U w.heap.size (cM (cL 256 λc=>J (k+1) c)).toArray 189):=λU hb=>by
    rw[pL (λc _=>W9.out k c)];rwa[gY] at hb
   have ax:Hid (∀j c,((W k).take j).count c<=45):=λj c=>cJ List.count_le_length (by rw[aI];omega)
   have af:Hid (∀j,j<(W k).length->(W k).getD j 0<256):=λj hj=>(aC.out _ (by rw[aj,aF hj];exact bA hj)).2
   clear ak hg ah ag aS G aO aL aC aU;obtain⟨m,hm⟩:∃m,(W k).length=m:=⟨_,rfl⟩;rw[hm] at Ux ae Z af aV;rw[hm];clear hm;generalize W k=L at *;go_wp2_with fail;go_loopg [16] m (λgh s16 U=>∃j:Nat,j+gh=m/\s16= .int .i64 (j:Int)/\Hid (ay [w.heap.size] w3 U/\bf U w.heap.size (cM (cL 256 λc=>J k c+(L.take j).count c)).toArray 189))
   case atStart=>exact⟨0,by omega,rfl,ay.refl _ _,p9.out⟩
   case round=>
    clear p9;obtain⟨j,hj,rfl,G⟩:=hrel;cases gk with
    |zero=>
     obtain rfl:j=m:=by omega
     have HF:Hid (ay [] w wr/\bf wr w.heap.size (cM (cL 256 λc=>J (k+1) c)).toArray 189):=⟨lV.out.trans G.out.1 (by intro x hx;rw[au] at hx;omega),Z.out _ G.out.2⟩;clear G Z Ux ae ax af;go_wp2_with fail;go_roundg gg;case measure=>omega
     case rel=>exact⟨k+1,by omega,by go_num,HF.out⟩
    |succ g2=>
     have aM:j<m:=by omega
     have KJ:(j:Int)<(m:Int):=by omega
     have zz:(0:Int)<=(j:Int):=by omega
     obtain⟨off,rfl,aP,d1,Uu⟩:=Ux.out j aM;have c1:wr.cell? ⟨g,off+j,none⟩=some (.int .i64 ((L.getD j 0:Nat):Int)):=(aK (a:=⟨g,off+j,none⟩) (G.out.1.block g aP (by simpa using Uu))).trans d1;have hy:=af.out j aM;have aD:=λc=>ae.out j (by omega) c
     have aT:=Ge.out (L.getD j 0);have aQ:=ax.out j (L.getD j 0);generalize L.getD j 0=y at *;have c2:=GA G.out.2 (j:=y) hy;obtain⟨z,hz⟩:∃z,J k y+(L.take j).count y=z:=⟨_,rfl⟩;rw[hz] at c2;have aX:z<=1600:=by omega
     have G9:Hid (∀x:Int,x=((z+1:Nat):Int)->bf (wr.setCell ⟨w.heap.size,y,none⟩ (.int .i64 x)) w.heap.size (cM (cL 256 λc=>J k c+(L.take (j+1)).count c)).toArray 189):=λx hx=>Jq G.out.2 y (λq hq=>by
      rw[aD q];by_cases e:q=y
      ·subst e;rw[aB rfl,aB rfl];omega
      ·rw[aA e,aA e]) (by rw[hx,hz])
     have f2:=G.out.2.frozen y;have qp:=ar G.out.1;have aY:(0:Int)<=(y:Int):=by omega
     have aZ:(y:Int)<256:=by omega
     clear G d1 aD hz aT aQ Ux ae ax af;go_wp2_with fail;go_roundg g2;case measure=>omega
     case rel=>exact⟨j+1,by omega,by go_num,qp.out.setCell (.inl (by simp)) _,G9.out _ (by go_num)⟩
  |zero=>
   obtain rfl:k=32:=by omega
   have qp:=ar G.out.1;have HL:Hid ((loadVar 189 ⟨w.heap.size,0,none⟩).run prog wr= .ok (.agg (cM (cL 256 λc=>J 32 c)).toArray) wr):=Pz G.out.2;have HZ:Hid (∀c,c<256->(cM (cL 256 λc=>J 32 c)).toArray[c]? =some (.int .i64 (J 32 c:Int))):=λc hc=>tY hc
   have Z7:=ar (λc=>ai.out 32 c (by omega));clear G nt av ai W9 hk;generalize (cM (cL 256 λc=>J 32 c)).toArray=ZC at *;go_wp2_with(with_reducible refine gL 189 HL.out ?_);go_loopg [28] 256 (λgh s28 U=>wr=U/\∃c:Nat,c+gh=256/\s28= .int .i64 (c:Int)/\Hid (∀b:Nat,b<c->J 32 b<=1/\(dx X b=true↔J 32 b=1)))
   case atStart=>exact⟨rfl,0,by omega,rfl,λi hi=>by omega⟩
   case round=>
    obtain⟨rfl,c,hc,rfl,G⟩:=hrel;cases gk with
    |zero=>
     obtain rfl:c=256:=by omega
     have HF:=ar (HP.out true _ ⟨λ_=>G.out,λ_=>rfl⟩ qp.out);clear G HP HZ Z7 aa HL;go_wp2_with fail;go_ret;exact HF.out
    |succ g2=>
     have V:c<256:=by omega
     have MD:(c:Int)<256:=by omega
     have Ad:=jR 189 3 256 .i64 ZC c _ underlying189 underlying3 mg V (HZ.out c V);have ac:=ar (aa.out _ qp.out c V);have hm:=Z7.out c;have Z:Hid ((J 32 c<=1/\(dx X c=true↔J 32 c=1))->∀b:Nat,b<c+1->J 32 b<=1/\(dx X b=true↔J 32 b=1)):=λhh b hb=>by
      by_cases e:b=c
      ·rw[e];exact hh
      ·exact G.out b (by omega)
     have jc:Hid (¬(J 32 c<=1/\(dx X c=true↔J 32 c=1))->¬∀b:Nat,b<256->J 32 b<=1/\(dx X b=true↔J 32 b=1)):=λhh ha=>hh (ha c V)
     generalize dx X c=u at *;generalize J 32 c=z at *;clear G HZ Z7 aa HL;by_cases h1:1<z
     ·have aR:(1:Int)<(z:Int):=by omega
      have HF:=ar (HP.out false _ ⟨(λh=>by cases h),λhh=>absurd hh (jc.out λh=>by omega)⟩ qp.out);clear Z jc HP h1;go_wp2_with fail;go_ret;exact HF.out
     ·have aR:¬(1:Int)<(z:Int):=by omega
      by_cases hz:z=1
      ·subst hz
       cases u
       ·have HF:=ar (HP.out false _ ⟨(λh=>by cases h),λhh=>absurd hh (jc.out λh=>by simp at h)⟩ qp.out)
        clear Z jc HP h1;go_wp2_with fail;refine ac.out.mono ?_;rintro e w1 ⟨rfl,rfl⟩;go_wp2_with fail;go_ret;exact HF.out
       ·have HN:=ar (Z.out ⟨by omega,by simp⟩)
        clear Z jc HP h1;go_wp2_with fail;refine ac.out.mono ?_;rintro e w1 ⟨rfl,rfl⟩;go_wp2_with fail;go_roundg g2;case measure=>omega
        case rel=>exact⟨rfl,c+1,by omega,by go_num,HN.out⟩
      ·obtain rfl:z=0:=by omega
       cases u
       ·have HN:=ar (Z.out ⟨by omega,by simp⟩)
        clear Z jc HP h1 hz;go_wp2_with fail;refine ac.out.mono ?_;rintro e w1 ⟨rfl,rfl⟩;go_wp2_with fail;go_roundg g2;case measure=>omega
        case rel=>exact⟨rfl,c+1,by omega,by go_num,HN.out⟩
       ·have HF:=ar (HP.out false _ ⟨(λh=>by cases h),λhh=>absurd hh (jc.out λh=>by simp at h)⟩ qp.out)
        clear Z jc HP h1 hz;go_wp2_with fail;refine ac.out.mono ?_;rintro e w1 ⟨rfl,rfl⟩;go_wp2_with fail;go_ret;exact HF.out
end Go.Proofs.YtepbpdipenedhaaGreatDoor

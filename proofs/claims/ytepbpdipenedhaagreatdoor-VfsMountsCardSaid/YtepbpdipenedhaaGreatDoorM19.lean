/- Lemmas. -/
import Derived.Test.YtepbpdipenedhaaGreatDoorM18
set_option maxHeartbeats 4000000
set_option maxRecDepth 100000
namespace Go.Proofs.YtepbpdipenedhaaGreatDoor
open Go.Proofs.Tryz
open Go.RowKit
variable{B X l:List Int}{b cap g gp j k n z:Nat}{w w':World}{a:Option Addr}{T:List (bT×Value)}{ps:List (Int×Int)}{own:Nat->List Nat}{f f':Nat->Nat}
theorem S4 (h:j<l.length):(zs l)[j]? =some (.int .i64 (l.getD j 0)):=gK h
def Kf (w:World) (h:Prop) (e:Ending) (w':World):Prop:=∃r:Int,e=r/\w=w'/\(0<=r↔h)
theorem YY (x:Int)(hR:Reads w (.slice a l.length cap) g (zs l)):
  Calls prog 184 #[.slice a l.length cap,x] w (Kf w (x∈l)):=by
 have HC:Hid (∀j,j<l.length->∃off,a=some ⟨g,off,none⟩/\w.cell? ⟨g,off+j,none⟩=some (.int .i64 (l.getD j 0))):=λj G=>by
  obtain⟨a',U,hv,-,-,h3⟩:=hR
  injection hv with e1 e2 e3
  have aa:zs l≠[]:=λe=>by have :=cN List.length e;rw[eO,cC] at this;omega
  obtain⟨-,off,h5,h6⟩:=h3 aa;exact⟨off,by rw[e1];exact h5,by rw[h6 j (by rw[eO];exact G),S4 G]⟩
 have ae:l.length<=maxLen:=by
  obtain⟨a',U,hv,h1,h2,-⟩:=hR;rw[eO] at h1;omega
 have W:Hid (∀j,j<l.length->l.getD j 0=x->x∈l):=λj G e=>by
  rw[<-e,aj,aD G];exact bG G
 have HN:Hid ((∀j,j<l.length->l.getD j 0≠x)->¬x∈l):=λh hm=>by
  obtain⟨j,G,e⟩:=bY hm;exact h j G (by rw[aj,aD G];exact e)
 unfold maxLen at ae;clear hR;generalize hm:l.length=m at *;clear hm;have z:Hid (∀r:Int,(0<=r↔x∈l)->Kf w (x∈l) (.returned (r:Int)) w):=λr h=>⟨r,rfl,rfl,h⟩
 generalize ac:(x∈l)=px at *;clear ac;go_in;go_wp2_with fail;go_loopg [8] m (λgh s8 wx=>∃k:Nat,k+gh=m/\s8= .int .i64 (k:Int)/\w=wx/\Hid (∀j,j<k->l.getD j 0≠x))
 case atStart=>exact⟨0,by omega,rfl,rfl,λj G=>by omega⟩
 case round=>
  obtain⟨k,hk,rfl,rfl,V⟩:=hrel;cases gk with
  |zero=>
   obtain rfl:k=m:=by omega
   have HF:=ar (z.out (-1) ⟨λh=>by omega,λh=>absurd h (HN.out V.out)⟩);clear HC W HN V z;go_wp2_with fail;go_ret;exact HF.out
  |succ gg=>
   have af:(k:Int)<(m:Int):=by omega
   have cJ:(0:Int)<=(k:Int):=by omega
   have JN:k<m:=by omega
   obtain⟨off,rfl,c0⟩:=HC.out k JN;by_cases J:l.getD k 0=x
   ·have HF:=ar (z.out (k:Int) ⟨λ_=>W.out k JN J,λ_=>cJ⟩)
    have hb:(x==l.getD k 0)=true:=by rw[J];simp
    clear HC W HN V z J;generalize l.getD k 0=y at *;go_wp2_with fail;go_ret;exact HF.out
   ·have mZ:Hid (∀j,j<k+1->l.getD j 0≠x):=λj G=>by
     by_cases e:j=k
     ·rw[e];exact J
     ·exact V.out j (by omega)
    have hb:(x==l.getD k 0)=false:=by rw[cP];exact λe=>J e.symm
    clear HC W HN V z J;generalize l.getD k 0=y at *;go_wp2_with fail;go_roundg gg;case measure=>omega
    case rel=>exact⟨k+1,by omega,by go_num,rfl,mZ.out⟩
theorem N4 (x:Int)(h:Reads w (.slice a l.length cap) g (zs l)):
  Calls prog 157 #[.slice a l.length cap,x] w λe w'=>e=(decide (x∈l))/\w=w':=by
 have G:=ar (YY x h);clear h;generalize l.length=m at *;go_in;go_wp2_with fail;refine G.out.mono ?_;rintro e w' ⟨r,rfl,rfl,z⟩;have J:=ar z;clear z;go_wp2_with fail;go_ret;refine⟨?_,rfl⟩;show Ending.returned (decide (0<=r))=_;rw[decide_eq_decide.2 J.out]
theorem LK{P:Program}(af:Nat)(t ty e:TypeId)(i:TypeInfo)(z:Value)(size bytes:Nat)(ht:P.underlying t=some (.slice e))(hi:P.info? e=some i)(hz:i.zero=some z)
  (ae:i.size=size) (au:i.bytes=bytes) (ay:0<size) (g n cap:Nat) (xs:List Value) (J:w.ownsRow af e size (.slice g n cap) n xs)
  (a:Addr) (m c:Nat) (G:List Value) (hl:G.length=m*size) (V:∀j u,G[j]? =some u->w.cell? (a.add j)=some u) (h1:∀u∈G,u.oneCell'=true)
  (ak:n+m<=maxLen) (aa:(n+m)*bytes<=140737488355328) {v':Value} {w':World} (hr:(Builtin.append_ #[t,t] ty #[.slice g n cap,.slice (some a) m c]).run P w= .ok v' w'):
  v'.ownBlock=some g\/v'.ownBlock=some w.heap.size:=by
 subst ae;subst au;have ai:n+m<=9223372036854775807:=by simp only[maxLen] at ak;omega
 have ac:∀j u,xs[j]? =some u->w.cell? ((⟨g,0,none⟩:Addr).add j)=some u:=J.cells (g:=g) rfl;rcases J.2 with ⟨h,-⟩|⟨g',av,ag,hv,ax,hg,az,aA,ar,aj⟩
 ·cases h
 ·cases hv
  by_cases U:n+m<=cap
  ·have ah:n*i.size+G.length<=ag.size:=by rw[hl,ar,<-Nat.add_mul];exact Nat.mul_le_mul_right _ U
   have W:=run_append_room (P:=P) w t ty e i ht hi g n cap ag hg a m c G hl V h1 U ah;rw[hr] at W
   injection W with e1 e2
   rw[e1];exact .inl rfl
  ·have W:=run_append_grow (P:=P) w t ty e i z ht hi hz ⟨g,0,none⟩ n cap xs J.1 ac a m c G hl V (by omega) (by omega) (growslice_fits (by omega) aa)
   rw[hr] at W
   injection W with e1 e2
   rw[e1];exact .inr rfl
def dt (w:World) (p:Prop) (e:Ending) (w':World):Prop:=∃r:Bool,e=r/\(r=true↔p)/\ay [] w w'
theorem Ed (w:World):(zeroValue 87).run prog w= .ok (.agg #[.string ⟨#[]⟩,(0:Int)]) w:=by kernel_rfl
theorem BG{T:Nat}{h:Array Value}(s:ByteArray)(y:Int)(J:bh w g h T)(G:h.size=2):
  ∃w',(storeVar 87 g (.agg #[.string s,y])).run prog w= .ok () w'/\bh w' g #[.string s,y] T/\ay [g] w w':=
 bH (P:= prog) (ty:= 87) (cs:=[.string s,.int .i64 y]) Ge J (by rw[G];rfl) (by intro u z;simp only[aL,aK,bC] at z;rcases z with rfl|rfl<;>rfl)
theorem Q9 (HG:Hid (∀x wx,ay [] w wx->Calls prog 97 #[b,(x:Int)] wx λe w'=>∃n v g a c cap r,e= .returned (.tuple #[aM n v,.slice a c cap,(r:Int)])/\n.B.length=13/\bD w' v g n.E/\wx.heap.size<=g/\n.E.map (·.2)=o8 T x/\ay [] wx w'))(hN:Q5 T)(d i:Int):
  Calls prog 114 #[b,d,i] w (dt w (Reach T d i)):=by
 have ou:Hid (∀R k,rW T d i R k->R.length<=33):=λR k hb=>hb.len hN
 obtain⟨i0,hi,aW,bf,ba⟩:=dc Tryz.info_int;have bl:Hid ((w.alloc (.cells #[d] 3)).ownsRow w.heap.size 3 1 (.slice w.heap.size 1 1) 1 (zs [d])):=
  ⟨rfl,.inr ⟨w.heap.size,1,#[d],rfl,aH _,bh.new w _ _,aH _,by unfold maxLen;omega,rfl,rfl⟩⟩
 have qa:=ar (rW.start T d i);have bv:Hid (∀R k,rW T d i R k->k<=R.length):=λR k V=>V.le
 have IB:Hid (∀R k x,rW T d i R k->R[k]? =some x->x=i->Reach T d i):=λR k x V h2 h3=>V.found h2 h3
 have Ra:Hid (∀R k,rW T d i R k->k=R.length->¬Reach T d i):=λR k V h2=>V.ended h2
 have aJ:Hid (∀R k x y,rW T d i R k->R[k]? =some x->y∈o8 T x->y∉R->rW T d i (R++[y]) k/\(R++[y])[k]? =some x):=λR k x y V h2 h3 h4=>V.more h2 h3 h4
 have nG:Hid (∀R k x,rW T d i R k->R[k]? =some x->x≠i->(∀y∈o8 T x,y∈R)->rW T d i R (k+1)):=λR k x V h2 h3 h4=>V.next h2 h3 h4
 have bn:Hid (∀r w',(r=true↔Reach T d i)->ay [] w w'->dt w (Reach T d i) (.returned (.bool r)) w'):=λr w' V h2=>⟨r,rfl,V,h2⟩
 have bz:=dz;obtain⟨Z0,C7⟩:∃Z0,aM cg (.slice none 0 0)=Z0:=⟨_,rfl⟩;have Ld:Hid (Z0.size=18):=by show _=_;rw[<-C7];rfl
 rw[C7] at bz;have bU:=Ed;clear C7 hN;generalize bC:Reach T d i=pR,bB:rW T d i=bI,o8 T=sL at *;clear bC bB;go_in;go_wp2_with fail;go_loopg [7,8] 33 (λgh s7 s8 wz=>∃(R:List Int) (k:Nat),s8= .int .i64 (k:Int)/\k+gh=33/\Hid (bI R k/\wz.ownsRow w.heap.size 3 1 s7 R.length (zs R)/\ay [] w wz/\R≠[]))
 case atStart=>exact⟨[d],0,rfl,rfl,qa.out,bl.out,(ay.refl _ _).alloc _,by simp⟩
 case round=>
  clear bl qa;obtain⟨R,k,rfl,hk,U⟩:=hrel;obtain⟨gR,ho,aA⟩:=fp.of_row U.out.2.1;have ae:R.length≠0:=λe=>U.out.2.2.2 (bo e)
  obtain⟨aS,⟨cR,rfl,aT,bJ⟩,W,bc⟩:=ho.cell ae;have bL:=ou.out R k U.out.1;have S5:=(aA ae).1;by_cases ai:k<R.length
  ·obtain⟨gg,rfl⟩:∃gg,gk=gg+1:=⟨gk-1,by omega⟩
   have hx:R[k]? =some (R.getD k 0):=by rw[aj,aD ai];rfl
   have c0:wr.cell? ⟨gR,k,none⟩=some (.int .i64 (R.getD k 0)):=by rw[W k (by omega),S4 ai]
   have HX:=ar hx;clear hx W bc ho aA;generalize R.getD k 0=x at *;by_cases Nr:x=i
   ·have zX:=ar (IB.out R k x U.out.1 HX.out Nr)
    have jA:=ar U.out.2.2.1;have bt:(x==i)=true:=by rw[Nr];simp
    have xI:(k:Int)<(R.length:Int):=by omega
    have cJ:(0:Int)<=(k:Int):=by omega
    clear U Nr IB Ra aJ nG HG ou;generalize R.length=q at *;go_wp2_with fail;go_ret;exact bn.out true _ ⟨λ_=>zX.out,λ_=>rfl⟩ jA.out
   ·have bt:(x==i)=false:=by simpa using Nr
    have xI:(k:Int)<(R.length:Int):=by omega
    have cJ:(0:Int)<=(k:Int):=by omega
    obtain⟨YZ,bO⟩:=hh2 (HG.out x wr U.out.2.2.1) Nr;clear Nr;obtain⟨q,hq⟩:∃q,R.length=q:=⟨_,rfl⟩;have HQ:=ar hq;rw[hq] at xI ai bL ae aT;rw[hq];clear hq;go_wp2_with fail;refine YZ.out.mono ?_;rintro e w3 ⟨n,v,g,a,c,cap,r,rfl,hB,hE,hg,aX,av⟩;have bg:=U.out.2.2.1;have bA:=av.size;obtain⟨an,cn,hv,bV,Us,-⟩:=hE.open;subst hv;obtain⟨w4,p1,p2,p3⟩:=cu (n:=n) (v:= .slice an n.E.length cn) (bh.new w3 Z0 111) Ld.out hB rfl;have ac:ay [] w3 w4:=((ay.refl [] w3).alloc _).trans p3 (by intro x hx;rw[au] at hx;omega);have bK:=ac.size;have aR:w4.cell? ⟨w3.heap.size,17,none⟩=some (.slice an n.E.length cn):=by rw[p2.cell];exact(gG _ hB).f5
    have tZ:=ar p1;have af:=U.out.2.1;rw[HQ.out] at af;obtain⟨nu,aV,qb⟩:=hh3 (eo (eo af av (by simp)) ac (by simp)) (hE.keep ac (by simp)) ((bg.trans' av).trans' ac);have UO:Hid (gR<wr.heap.size/\wr.heap.size<=g/\gR<w4.heap.size/\w.heap.size<=gR):=⟨aS,hg,by omega,S5⟩;obtain⟨Sy,aU⟩:=hh2 aX U.out.1;have bP:n.E.length<=9223372036854775807:=by unfold maxLen at Us;omega
    clear p1 p2 p3 av ac hE hg aX U bg bA bK af YZ aS S5 Us bJ aT;generalize aM n (.slice an n.E.length cn)=ZN at *;obtain⟨mE,hm⟩:∃mE,n.E.length=mE:=⟨_,rfl⟩;have ah:=ar hm;rw[hm] at aR aV bP;clear hm;go_wp2_with(with_reducible refine gS 111 tZ.out ?_);clear aR;go_loopg [7,41] mE (λgh s7 s41 wz=>∃(G:List Int) (j:Nat),s41= .int .i64 (j:Int)/\j+gh=mE/\Hid (bI G k/\G[k]? =some x/\(∀t,t<j->jq n.E t∈G)/\wz.ownsRow w.heap.size 3 1 s7 G.length (zs G)/\ay [] w wz/\ay [gR] w4 wz/\(∀kk,s7.ownBlock=some kk->kk=gR\/w4.heap.size<=kk)/\G≠[]))
    case atStart=>exact⟨R,0,rfl,by omega,aU.out,HX.out,(λt ht=>by omega),(by rw[HQ.out];exact nu.out),qb.out,ay.refl _ _,(λkk e=>by simp[Value.ownBlock] at e;exact .inl e.symm),(λe=>ae (by rw[<-HQ.out,e];rfl))⟩
    case round=>
     clear nu aU ai xI ae;obtain⟨G,j,rfl,hj,U⟩:=hrel;obtain⟨q1,q2,q3,q4,q5,q6,q7,q8⟩:=U.out;have bw:=ou.out _ _ q1;cases gk with
     |zero=>
      obtain rfl:j=mE:=by omega
      have qT:Hid (bI G (k+1)):=nG.out G k x q1 q2 bO.out (λy hy=>by
       rw[<-Sy.out] at hy;obtain⟨t,ht,e⟩:=bY hy;rw[bZ] at ht;have :=q3 t (by rw[<-ah.out];exact ht);rw[ic] at e;rwa[show jq n.E t=y by rw[<-e];simp[jq,ht]] at this)
      have Qu:=ar (And.intro q4 (And.intro q5 q8));clear U q1 q2 q3 q4 q5 q6 q7 q8;go_wp2_with fail;go_roundg gg;case measure=>omega
      case rel=>exact⟨G,k+1,by go_num,by omega,qT.out,Qu.out.1,Qu.out.2.1,Qu.out.2.2⟩
     |succ g2=>
      have ak:j<mE:=by omega
      have Qe:(j:Int)<(mE:Int):=by omega
      have Cf:(0:Int)<=(j:Int):=by omega
      obtain⟨J,Mm,bp⟩:=fp.of_row q4;have bq:G.length≠0:=λe=>q8 (bo e)
      obtain⟨Qn,⟨aB,bE,bS,aN⟩,-,-⟩:=Mm.cell bq;subst bE;have aG:=aV.out;rw[<-ah.out] at aG ak;obtain⟨ax,cx,br,bM,bQ,aL⟩:=aG.open
      injection br with e1 e2 e3
      subst e1 e3;obtain⟨aI,off,rfl,d1,d2⟩:=aL.out j ak;rw[ah.out] at ak;have Gv:g∉[gR]:=by have :=UO.out;rw[au];omega
      have ag:Hid ((loadVar 87 ⟨g,off+j*2,none⟩).run prog wr= .ok (.agg #[.string (eX n.E j),(jq n.E j:Int)]) wr):=
       AE ((aO (w:=w4) (a:=⟨g,off+j*2,none⟩) (q6.block g aI Gv)).trans d1) ((aO (w:=w4) (a:=⟨g,off+j*2+1,none⟩) (q6.block g aI Gv)).trans d2)
      have aP:jq n.E j∈sL x:=by
       rw[<-Sy.out];have V:j<n.E.length:=by rw[ah.out];exact ak
       refine bF.2 ⟨n.E[j],bG V,?_⟩;simp[jq,V]
      obtain⟨w6,p1,p2,p3⟩:=BG (eX n.E j) (jq n.E j) (bh.new wr #[.string ⟨#[]⟩,(0:Int)] 87) rfl;have jW:ay [] wr w6:=((ay.refl [] wr).alloc _).trans p3 (by intro x hx;rw[au] at hx;omega);have c1:w6.cell? ⟨wr.heap.size,1,none⟩=some (.int .i64 (jq n.E j)):=by rw[p2.cell];rfl
      have Gx:=ar p1;have aY:=eo q4 jW (by simp);have bN:Hid (Reads w6 (.slice J G.length aB) J (zs G)):=Mm.reads.keep jW (by simp);obtain⟨Lg,aF⟩:=hh2 (N4 (jq n.E j) bN.out) aY;have bH:=jW.size;have BH:Hid (bI G k/\G[k]? =some x/\(∀t,t<j->jq n.E t∈G)/\ay [] w w6/\ay [gR] w4 w6/\G≠[]/\(J=gR\/w4.heap.size<=J)/\w4.heap.size<=w6.heap.size/\J<w6.heap.size):=⟨q1,q2,q3,q5.trans' jW,q6.trans jW (by simp),q8,q7 _ rfl,by have :=q6.size;omega,by omega⟩;have aZ:=ar aP;clear p1 p2 p3 jW q1 q2 q3 q4 q5 q6 q7 q8 aY aP d1 d2 aI Gv aL bM bQ aG U Mm bp Qn aN bH;obtain⟨y,hy⟩:∃y,jq n.E j=y:=⟨_,rfl⟩;have bj:=ar hy;rw[hy] at ag Gx c1 Lg aZ;clear hy;obtain⟨sN,bb⟩:∃sN,eX n.E j=sN:=⟨_,rfl⟩;rw[bb] at ag Gx;clear bb;go_wp2_with(with_reducible first|refine gL 87 ag.out ?_|refine gS 87 Gx.out ?_);refine C' Lg.out ?_;by_cases aa:y∈G
      ·have hd:decide (y∈G)=true:=bu aa
       rw[hd];have EW:=ar aa;clear hd aa Lg ag Gx;go_wp2_with fail;go_roundg g2;case measure=>omega
       case rel=>exact⟨G,j+1,by go_num,by omega,BH.out.1,BH.out.2.1,(λt ht=>by
         by_cases e:t=j
         ·rw[e,bj.out];exact EW.out
         ·exact BH.out.2.2.1 t (by omega)),aF.out,BH.out.2.2.2.1,BH.out.2.2.2.2.1,(λkk e=>by simp[Value.ownBlock] at e;rw[<-e];exact BH.out.2.2.2.2.2.2.1),BH.out.2.2.2.2.2.1⟩
      ·have hd:decide (y∈G)=false:=aQ aa
       rw[hd];obtain⟨m1,m2⟩:=aJ.out G k x y BH.out.1 BH.out.2.1 aZ.out aa;have Mh:=bh.new w6 #[(y:Int)] 3;have bR:G.length<=33:=bw;obtain⟨v',w8,hr,aK,Sv⟩:=mh (P:= prog) 141 3 141 i0 _ 1 8 underlying141 hi aW bf ba rfl (by omega) w.heap.size G.length _ _ (aF.out.alloc (.cells #[(y:Int)] 3)) (some ⟨w6.heap.size,0,none⟩) 1 1 [.int .i64 y] rfl (λ_=>⟨_,rfl,lI _ [_] _ _ rfl⟩) (by simp[Value.oneCell']) (by unfold maxLen;omega) (by omega) (by have V:=UO.out;have h2:=BH.out;simp;omega);have az:=LK (P:= prog) w.heap.size 141 141 3 i0 _ 1 8 underlying141 hi aW bf ba (by omega) J G.length aB _ (aF.out.alloc (.cells #[(y:Int)] 3)) ⟨w6.heap.size,0,none⟩ 1 1 [.int .i64 y] rfl (lI _ [_] _ _ rfl) (by simp[Value.oneCell']) (by unfold maxLen;omega) (by omega) hr;have uR:ay [J] w6 w8:=((ay.refl [J] w6).alloc (.cells #[(y:Int)] 3)).trans (ay.of_grown (l:=[J]) Sv (λkk e=>by simp[Value.ownBlock] at e;exact .inl (by simp[e]))) (λz hz=> .inl hz);have HN:Hid (bI (G++[y]) k/\(G++[y])[k]? =some x/\(∀t,t<j+1->jq n.E t∈G++[y])/\w8.ownsRow w.heap.size 3 1 v' (G++[y]).length (zs (G++[y]))/\ay [] w w8/\ay [gR] w4 w8/\(∀kk,v'.ownBlock=some kk->kk=gR\/w4.heap.size<=kk)/\G++[y]≠[]):=by
        obtain⟨a1,a2,a3,a4,a5,a6,a7,a8,a9⟩:=BH.out;have V:=UO.out;refine⟨m1,m2,λt ht=> ?_,?_,a4.trans uR (λz hz=>by rw[au] at hz;right;omega),a5.trans uR (λz hz=>by rw[au] at hz;subst hz;rcases a7 with e|e;exact .inl (by simp[e]);exact .inr e),λkk e=> ?_,by simp⟩
        ·by_cases e:t=j
         ·rw[e,bj.out];simp
         ·have :=a3 t (by omega);simp[this]
        ·rw[aC,yQ]
         exact aK
        ·rcases az with e2|e2
         ·rw[e2] at e;injection e with e;rw[<-e];exact a7
         ·rw[e2] at e;injection e with e;rw[<-e];right;simp;omega
       clear hd aa Lg ag Gx m1 m2 Mh aK Sv az uR;generalize G.length=q' at *;go_wp2_with(at_builtin;refine wpList_append_run rfl (.tmp 50) (.tmp 53) 141 141 ?_ (.slice J q' aB) (.slice w6.heap.size 1 1) ?_ ?_ hr ?_;all_goals first|rfl|skip);go_roundg g2;case measure=>omega
       case rel=>exact⟨G++[y],j+1,by go_num,by omega,HN.out⟩
  ·have xI:¬(k:Int)<(R.length:Int):=by omega
   have bk:k=R.length:=by
    have V:=U.out.1;have h2:k<=R.length:=bv.out R k V;omega
   obtain⟨j6,jA⟩:=hh2 (Ra.out R k U.out.1 bk) U.out.2.2.1;clear U IB Ra aJ nG HG ou bk W bc ho aA;generalize R.length=q at *;go_wp2_with fail;go_ret;exact bn.out false _ ⟨(λh=>by cases h),λh=>absurd h j6.out⟩ jA.out
def Y0 (X:List Int) (b:Int):Bool:=if IG b=true then dF X b.toNat else true
theorem Vt (h:eK w b gp B ps)(z:In64 (az B ps))(i:Int):
  Calls prog 133 #[b,i] w λe w'=>e=(Y0 (az B ps) i:Bool)/\w=w':=by
 have G:=ar (Bd i w);unfold Y0;cases hi:IG i
 ·rw[hi] at G
  rw[aA (by simp)];clear hi h;go_in;go_wp2_with(go_at_call 164;refine C' G.out ?_);go_ret;exact⟨rfl,rfl⟩
 ·rw[hi] at G
  rw[aB rfl];obtain⟨W,h1⟩:=xU.1 hi;clear hi;obtain⟨j,rfl⟩:=cy W;have U:j<256:=by omega
  rw[aG];obtain⟨HB,V,J⟩:=hh3 (DI j U w) (xV j U w) (pz h ((816+j/64:Nat):Int));rw[Cw z (j/64) (by omega)] at J;have ha:=iu (bw (az B ps) (j/64)) (pC j) (FL z _) (KW j);have he:((((bw (az B ps) (j/64) &&& pC j:Nat):Int)) != 0)=dF (az B ps) j:=by
   have :=Xp (bw (az B ps) (j/64)) j;unfold dF;rw[Bool.eq_iff_iff,<-this];simp
  generalize bw (az B ps) (j/64) &&& pC j=y at *;generalize bw (az B ps) (j/64)=x,pC j=m,dF (az B ps) j=u at *;clear h z;go_in;go_wp2_with fail;refine C' G.out ?_;go_wp2_with fail;refine C' HB.out ?_;go_wp2_with fail;refine C' J.out ?_;go_wp2_with fail;refine C' V.out ?_;go_wp2_with fail;go_ret;exact⟨rfl,rfl⟩
structure rH (X:List Int) (T:List (bT×Value)) (own:Nat->List Nat):Prop where
 len:T.length=32
 each:∀i:Nat,i<32->eH X (i:Int) (nT T i) (own i)\/((∀n o,¬eH X (i:Int) n o)/\nT T i=cg/\own i=[])
theorem abY (X:List Int):∃T own,rH X T own:=by
 have h:∀i:Nat,∃p:bT×List Nat,eH X (i:Int) p.1 p.2\/((∀n o,¬eH X (i:Int) n o)/\p.1=cg/\p.2=[]):=λi=>by
  by_cases h:∃p:bT×List Nat,eH X (i:Int) p.1 p.2
  ·obtain⟨p,z⟩:=h
   exact⟨p,.inl z⟩
  ·exact⟨(cg,[]),.inr ⟨λn o J=>h ⟨(n,o),J⟩,rfl,rfl⟩⟩
 obtain⟨f,G⟩:=Classical.axiomOfChoice h;refine⟨(List.range 32).map λi=>((f i).1,.slice none 0 0),λi=>(f i).2,by simp,λi U=> ?_⟩;have e:nT ((List.range 32).map λi=>((f i).1,Value.slice none 0 0)) i=(f i).1:=by
  unfold nT;rw[aj,bJ,cB U];rfl
 rw[e];exact G i
theorem N5{i:Int}{n:bT}{o:List Nat}(h:eH X i n o):n.F=1\/n.F=2:=h.right.1
theorem rH.zero(h:rH X T own){i:Nat}(z:32<=i):nT T i=cg:=by
 unfold nT;rw[aj,aP (by rw[h.len];omega)];rfl
theorem rH.form(h:rH X T own)(i:Nat):((nT T i).F≠0/\i<32/\eH X (i:Int) (nT T i) (own i))\/((nT T i).F=0/\nT T i=cg/\(i<32->own i=[]/\∀n o,¬eH X (i:Int) n o)):=by
 rcases dE i 32 with G|G
 ·rcases h.each i G with z|⟨z,J,U⟩
  ·exact .inl ⟨by have :=N5 z;omega,G,z⟩
  ·exact .inr ⟨by rw[J];rfl,J,λ_=>⟨U,z⟩⟩
 ·have :=h.zero G
  exact .inr ⟨by rw[this];rfl,this,λh=>by omega⟩
theorem rH.tabS(h:rH X T own):aes T:=λi J=>by
 rcases h.form i with ⟨G,-⟩|⟨-,z,-⟩
 ·exact absurd J G
 ·rw[z];rfl
theorem rH.tabR(h:rH X T own):ag0 T:=λi J G=>by
 rcases h.form i with ⟨-,-,z⟩|⟨z,-⟩
 ·exact z.right
 ·omega
theorem rH.tabN(h:rH X T own):Q5 T:=ag1 h.tabS h.tabR λi G=>by
 rcases h.form i with ⟨-,-,z⟩|⟨z,-⟩
 ·have :=N5 z;omega
 ·omega
theorem rH.get(h:rH X T own){i:Nat}(hi:i<32){n:bT}{o:List Nat}{r:Int}(hg:Vj X (i:Int) n o r):
  n=nT T i/\o=own i/\((r=0/\(nT T i).F≠0)\/(r=2/\(nT T i).F=0/\dR X (i:Int))\/(r=10/\(nT T i).F=0/\¬dR X (i:Int))):=by
 rcases hg with ⟨-,W,-⟩|⟨G,-,V,g3,g4⟩|⟨G,-,V,g3,g4,g5⟩|⟨G,W⟩
 ·omega
 ·rcases h.form i with ⟨-,-,e⟩|⟨U,J,z⟩
  ·exact absurd V e.notFree
  ·exact⟨by rw[g3,J],by rw[g4,(z hi).1],.inr (.inl ⟨G,U,V⟩)⟩
 ·rcases h.form i with ⟨-,-,e⟩|⟨U,J,z⟩
  ·exact absurd e (g3 _ _)
  ·exact⟨by rw[g4,J],by rw[g5,(z hi).1],.inr (.inr ⟨G,U,V⟩)⟩
 ·rcases h.form i with ⟨e0,-,e⟩|⟨U,J,z⟩
  ·obtain⟨rfl,rfl⟩:=e.uniq W
   exact⟨rfl,rfl,.inl ⟨G,e0⟩⟩
  ·exact absurd W ((z hi).2 _ _)
theorem rH.succ(h:rH X T own){x:Int}{n:bT}{o:List Nat}{r:Int}(J:Vj X x n o r):n.E.map (·.2)=o8 T x:=by
 unfold o8;by_cases z:0<=x/\x<32
 ·obtain⟨j,rfl⟩:=cy z.1
  rw[aB z,(h.get (i:=j) (by omega) J).1];rfl
 ·rw[aA z]
  rcases J with ⟨-,-,U,-⟩|⟨-,G,-⟩|⟨-,G,-⟩|⟨-,G⟩
  ·rw[U];rfl
  ·exact absurd G z
  ·exact absurd G z
  ·exact absurd G.rng z
theorem rH.elen(h:rH X T own)(i:Nat):(nT T i).E.length<=24:=by
 rcases h.form i with ⟨-,-,z⟩|⟨-,z,-⟩
 ·exact(jQ z.right).1
 ·rw[z];exact fC _
def zH (E:List (ByteArray×Int)) (j i:Nat):Nat:=(E.take j).countP λe=>e.2==(i:Int)
theorem S6 (E:List (ByteArray×Int))(j i:Nat):zH E j i<=j:=
 cE List.countP_le_length (by rw[aJ];omega)
theorem Vu (E:List (ByteArray×Int))(i:Nat):zH E 0 i=0:=by simp[zH]
theorem Vv{E:List (ByteArray×Int)}(z:j<E.length)(i:Nat):zH E (j+1) i=zH E j i+if jq E j=(i:Int) then 1 else 0:=by
 unfold zH;rw[bP z,List.countP_append,List.countP_singleton];have :jq E j=E[j].2:=by simp[jq,z]
 rw[this];by_cases h:E[j].2=(i:Int)<;>simp[h]
def Kg (T:List (bT×Value)):Nat->Nat->Nat
 |0,_=>0
 |k+1,i=>Kg T k i+zH (nT T k).E (nT T k).E.length i
def lX (T:List (bT×Value)) (i:Nat):Nat:=Kg T 32 i
def kO (T:List (bT×Value)):Nat->List (Nat×bT)
 |0=>[]
 |k+1=>kO T k++if (nT T k).F=0 then [] else [(k,nT T k)]
def xD:List (Nat×bT)->Nat->Nat
 | [],_=>0
 |p::l,i=>zH p.2.E p.2.E.length i+xD l i
theorem Ee (l m:List (Nat×bT))(i:Nat):xD (l++m) i=xD l i+xD m i:=by
 induction l with
 |nil=>simp[xD]
 |cons p l ih=>simp[xD,ih];omega
theorem Y1 (z:aes T)(k i:Nat):xD (kO T k) i=Kg T k i:=by
 induction k with
 |zero=>rfl
 |succ k ih=>
  unfold kO Kg;rw[Ee,ih];by_cases h:(nT T k).F=0
  ·rw[aB h,z k h];rfl
  ·rw[aA h];simp[xD]
theorem o9{p:Nat×bT}:p∈kO T k↔p.1<k/\p.2=nT T p.1/\p.2.F≠0:=by
 induction k with
 |zero=>simp[kO]
 |succ k ih=>
  unfold kO;rw[aT,ih];constructor
  ·rintro (⟨J,z,G⟩|h)
   ·exact⟨by omega,z,G⟩
   ·split at h
    ·simp at h
    ·next hF=>
     rw[au] at h;subst h;exact⟨by show k<_;omega,rfl,hF⟩
  ·rintro⟨J,z,G⟩
   by_cases e:p.1=k
   ·right
    rw[aA (by rw[<-e,<-z];exact G),au];obtain⟨a,c⟩:=p;cases e;exact cN (Prod.mk a) z
   ·exact .inl ⟨by omega,z,G⟩
def lq (X:List Int):Prop:=
 X.getD 0 0=7596835243318849792/\(X.getD 1 0=1\/X.getD 1 0=2)/\X.getD 2 0<=32/\(∀i:Nat,3<=i->i<8->X.getD i 0=0)/\∀i:Nat,820<=i->i<824->X.getD i 0=0
def wU (X:List Int) (T:List (bT×Value)):Prop:=∀i:Nat,i<32->dR X (i:Int)\/(nT T i).F≠0
def N6 (X:List Int) (T:List (bT×Value)):Prop:=(nT T 0).K=2/\∀i:Nat,i<32->0<lX T i->¬dR X (i:Int)
def tE (i:Nat) (n:bT) (c:Nat):Prop:=(n.K=1->(c:Int)=n.L/\1<=c)/\(n.K=2->n.L=1/\(i=0->c=0)/\(i≠0->c=1))
def yu (T:List (bT×Value)):Prop:=∀i:Nat,i<32->tE i (nT T i) (lX T i)
def Hb (X:List Int) (T:List (bT×Value)):Prop:=∀i:Nat,i<32->¬dR X (i:Int)->Reach T 0 (i:Int)
def kr (T:List (bT×Value)) (own:Nat->List Nat):Nat->Nat->Nat
 |0,_=>0
 |k+1,b=>kr T own k b+(own k++dm (nT T k)).count b
def xE (T:List (bT×Value)) (own:Nat->List Nat) (b:Nat):Nat:=kr T own 32 b
def S7 (X:List Int) (T:List (bT×Value)) (own:Nat->List Nat):Prop:=∀b:Nat,b<256->xE T own b<=1/\(dF X b=true↔xE T own b=1)
def j5 (X:List Int) (n:bT):Prop:=n.K=1->∀k:Nat,k<13->n.B.getD k 0≠0->∀j:Nat,j<64->n.S<=64*(k:Int)+j->rJ (X.getD (1080+8*(n.B.getD k 0).toNat+j/8) 0).toNat (j%8)=0
def yw (X:List Int) (T:List (bT×Value)):Prop:=∀i:Nat,i<32->j5 X (nT T i)
def tF (X:List Int) (T:List (bT×Value)) (own:Nat->List Nat):Nat->Prop
 |0=>lq X
 |1=>wU X T
 |2=>N6 X T
 |3=>yu T
 |4=>Hb X T
 |5=>S7 X T own
 |6=>yw X T
 |_=>True
def LL (P:Nat->Prop) (k:Nat):Prop:=(k=0/\∀j,j<7->P j)\/(0<k/\k<=7/\¬P (k-1)/\∀j,j<k-1->P j)
theorem LL.uniq{P:Nat->Prop}{G:Nat}(h:LL P k)(U:LL P G):k=G:=by
 rcases h with ⟨rfl,J⟩|⟨h0,h1,J,W⟩
 ·rcases U with ⟨rfl,-⟩|⟨g0,V,z,-⟩
  ·rfl
  ·exact absurd (J _ (by omega)) z
 ·rcases U with ⟨rfl,z⟩|⟨g0,V,z,g3⟩
  ·exact absurd (z _ (by omega)) J
  ·rcases Nat.lt_trichotomy k G with e|e|e
   ·exact absurd (g3 (k-1) (by omega)) J
   ·exact e
   ·exact absurd (W (G-1) (by omega)) z
theorem Vw{n:bT}(hB:n.B.length=13)(V:cm n)(hK:n.K=1):j5 X n↔(n.S%64≠0->n.B.getD (n.S/64).toNat 0≠0->∀j:Nat,n.S%64<=(j:Int)->j<64->rJ (X.getD (1080+8*(n.B.getD (n.S/64).toNat 0).toNat+j/8) 0).toNat (j%8)=0):=by
 have hS:0<=n.S/\n.S<=832:=by
  rcases V.2.2 with h|h
  ·exact h.2.1
  ·omega
 have W:=Vo hB V;constructor
 ·intro h h0 G j hj J
  refine h hK (n.S/64).toNat (by omega) G j J ?_;omega
 ·intro h _ k U G j hj aa
  have h1:=(W k U).2 (by have :=(W k U).1;omega);have h2:=h1.2.1;have z:k=(n.S/64).toNat:=by omega
  subst z;exact h (by omega) G j (by omega) hj
theorem Vx{n:bT}(v:Value)(hB:n.B.length=13)(hK:n.K=1\/n.K=2)(i c:Nat)(w:World):
  Calls prog 131 #[(i:Int),aM n v,(c:Int)] w (dt w (tE i n c)):=by
 have hb:=bh.new w (aM n v) 111;have hk:=(ay.refl [] w).alloc (.cells (aM n v) 111);have z:Hid (∀r:Bool,(r=true↔((n.K=1->(c:Int)=n.L/\1<=c)/\(n.K=2->n.L=1/\(i=0->c=0)/\(i≠0->c=1))))->dt w (tE i n c) (.returned (.bool r)) (w.alloc (.cells (aM n v) 111))):=λr h=>⟨r,rfl,h,hk⟩
 have c1:(w.alloc (.cells (aM n v) 111)).cell? ⟨w.heap.size,1,none⟩=some (.int .i64 n.K):=by rw[hb.cell];exact(gG v hB).f1
 have c2:(w.alloc (.cells (aM n v) 111)).cell? ⟨w.heap.size,2,none⟩=some (.int .i64 n.L):=by rw[hb.cell];exact(gG v hB).f2
 clear hb hk;generalize aM n v=Z,tE i n c=pP,n.K=K,n.L=L at *;obtain⟨U,PC⟩:∃U:Int,(c:Int)=U:=⟨_,rfl⟩;obtain⟨ii,W⟩:∃ii:Int,(i:Int)=ii:=⟨_,rfl⟩;obtain⟨Mg,Yg⟩:=hh2 PC W;rw[PC,W];rw[PC] at z;clear PC W;rcases hK with rfl|rfl
 ·by_cases G:U=L
  ·have b1:(U==L)=true:=by simpa using G
   by_cases V:1<=U
   ·have J:=ar (z.out true ⟨λ_=>⟨λ_=>⟨G,by have :=Mg.out;omega⟩,λh=>by omega⟩,λ_=>rfl⟩)
    clear z G;go_in;go_wp2_with fail;go_ret;exact J.out
   ·have J:=ar (z.out false ⟨(λh=>by cases h),λh=>by have :=Mg.out;have :=(h.1 rfl).2;omega⟩)
    clear z G;go_in;go_wp2_with fail;go_ret;exact J.out
  ·have b1:(U==L)=false:=by simpa using G
   have J:=ar (z.out false ⟨(λh=>by cases h),λh=>absurd (h.1 rfl).1 G⟩);clear z G;go_in;go_wp2_with fail;go_ret;exact J.out
 ·by_cases e0:ii=0
  ·subst e0
   by_cases G:L=1
   ·subst G
    by_cases V:U=0
    ·subst V
     have J:=ar (z.out true ⟨λ_=>⟨λh=>by omega,λ_=>⟨rfl,λ_=>by have :=Mg.out;omega,λh=>by have :=Yg.out;omega⟩⟩,λ_=>rfl⟩);clear z;go_in;go_wp2_with fail;go_ret;exact J.out
    ·have b2:(U==0)=false:=by simpa using V
     have J:=ar (z.out false ⟨(λh=>by cases h),λh=>by have :=(h.2 rfl).2.1 (by have :=Yg.out;omega);have :=Mg.out;omega⟩);clear z V;go_in;go_wp2_with fail;go_ret;exact J.out
   ·have b1:(L==1)=false:=by simpa using G
    have J:=ar (z.out false ⟨(λh=>by cases h),λh=>absurd (h.2 rfl).1 G⟩);clear z G;go_in;go_wp2_with fail;go_ret;exact J.out
  ·have b0:(ii==0)=false:=by simpa using e0
   by_cases G:L=1
   ·subst G
    by_cases V:U=1
    ·subst V
     have J:=ar (z.out true ⟨λ_=>⟨λh=>by omega,λ_=>⟨rfl,λh=>by have :=Yg.out;omega,λ_=>by have :=Mg.out;omega⟩⟩,λ_=>rfl⟩);clear z e0;go_in;go_wp2_with fail;go_ret;exact J.out
    ·have b2:(U==1)=false:=by simpa using V
     have J:=ar (z.out false ⟨(λh=>by cases h),λh=>by have :=(h.2 rfl).2.2 (by have :=Yg.out;omega);have :=Mg.out;omega⟩);clear z V e0;go_in;go_wp2_with fail;go_ret;exact J.out
   ·have b1:(L==1)=false:=by simpa using G
    have J:=ar (z.out false ⟨(λh=>by cases h),λh=>absurd (h.2 rfl).1 G⟩);clear z G e0;go_in;go_wp2_with fail;go_ret;exact J.out
def EO (i:Int) (x:Int):Prop:=(i=0->x=7596835243318849792)/\(i=1->x=1\/x=2)/\(i=2->x<=32)/\(2<i->x=0)
def Kh (w:World) (p:Prop) (e:Ending) (w':World):Prop:=(∃r:Bool,e=r/\(r=true↔p))/\w=w'
theorem I6 (i x:Int)(hi:0<=i)(w:World):
  Calls prog 126 #[i,.int .u64 x] w (Kh w (EO i x)):=by
 have z:Hid (∀r:Bool,(r=true↔((i=0->x=7596835243318849792)/\(i=1->x=1\/x=2)/\(i=2->x<=32)/\(2<i->x=0)))->Kh w (EO i x) (.returned (.bool r)) w):=λr h=>⟨⟨r,rfl,h⟩,rfl⟩
 generalize EO i x=pP at *;by_cases W:i=0
 ·subst W
  by_cases U:x=7596835243318849792
  ·have G:=ar (z.out true ⟨λ_=>⟨λ_=>U,by omega,by omega,by omega⟩,λ_=>rfl⟩)
   have b1:(x==7596835243318849792)=true:=by simpa using U
   clear z U;go_in;go_wp2_with fail;go_ret;exact G.out
  ·have G:=ar (z.out false ⟨(λh=>by cases h),λh=>absurd (h.1 rfl) U⟩)
   have b1:(x==7596835243318849792)=false:=by simpa using U
   clear z U;go_in;go_wp2_with fail;go_ret;exact G.out
 ·have b0:(i==0)=false:=by simpa using W
  by_cases U:i=1
  ·subst U
   by_cases V:x=1
   ·subst V
    have G:=ar (z.out true ⟨λ_=>⟨by omega,λ_=> .inl rfl,by omega,by omega⟩,λ_=>rfl⟩);clear z W;go_in;go_wp2_with fail;go_ret;exact G.out
   ·have b2:(x==1)=false:=by simpa using V
    by_cases J:x=2
    ·subst J
     have G:=ar (z.out true ⟨λ_=>⟨by omega,λ_=> .inr rfl,by omega,by omega⟩,λ_=>rfl⟩);clear z W V;go_in;go_wp2_with fail;go_ret;exact G.out
    ·have b3:(x==2)=false:=by simpa using J
     have G:=ar (z.out false ⟨(λh=>by cases h),λh=>by have :=h.2.1 rfl;omega⟩);clear z W V J;go_in;go_wp2_with fail;go_ret;exact G.out
  ·have b1:(i==1)=false:=by simpa using U
   by_cases V:i=2
   ·subst V
    by_cases J:x<=32
    ·have G:=ar (z.out true ⟨λ_=>⟨by omega,by omega,λ_=>J,by omega⟩,λ_=>rfl⟩)
     clear z W U;go_in;go_wp2_with fail;go_ret;simpa[J] using G.out
    ·have G:=ar (z.out false ⟨(λh=>by cases h),λh=>absurd (h.2.2.1 rfl) J⟩)
     clear z W U;go_in;go_wp2_with fail;go_ret;simpa[J] using G.out
   ·have b2:(i==2)=false:=by simpa using V
    by_cases J:x=0
    ·subst J
     have G:=ar (z.out true ⟨λ_=>⟨by omega,by omega,by omega,λ_=>rfl⟩,λ_=>rfl⟩);clear z W U V;go_in;go_wp2_with fail;go_ret;exact G.out
    ·have b3:(x==0)=false:=by simpa using J
     have G:=ar (z.out false ⟨(λh=>by cases h),λh=>absurd (h.2.2.2 (by omega)) J⟩);clear z W U V J;go_in;go_wp2_with fail;go_ret;exact G.out
structure gU (w:World) (b gp:Nat) (B:List Int) (ps:List (Int×Int)) (T:List (bT×Value)) (own:Nat->List Nat):Prop where
 sh:eK w b gp B ps
 w64:In64 (az B ps)
 gots:rH (az B ps) T own
 lt:b<w.heap.size/\gp<w.heap.size
theorem gU.keep(h:gU w b z B ps T own){l:List Nat}(J:ay l w w')(U:∀k∈l,w.heap.size<=k\/(k≠b/\k≠z)):gU w' b z B ps T own:=
 ⟨h.sh.keep J (λG=>by have :=U _ G;have :=h.lt;omega) (λG=>by have :=U _ G;have :=h.lt;omega),h.w64,h.gots,by have :=h.lt;have :=J.size;omega⟩
theorem gU.keep0(h:gU w b z B ps T own)(G:ay [] w w'):gU w' b z B ps T own:=h.keep G (by simp)
def za (w:World) (X:List Int) (T:List (bT×Value)) (own:Nat->List Nat) (i:Nat) (e:Ending) (w':World):Prop:=
 ∃v g h z r,e= .returned (.tuple #[aM (nT T i) v,h,(r:Int)])/\(nT T i).B.length=13/\bD w' v g (nT T i).E/\w.heap.size<=g/\l9 w' h z (own i)/\w.heap.size<=z/\ay [] w w'/\
  ((r=0/\(nT T i).F≠0)\/(r=2/\(nT T i).F=0/\dR X (i:Int))\/(r=10/\(nT T i).F=0/\¬dR X (i:Int)))
theorem gU.get{V:Nat}(h:gU w b V B ps T own){i:Nat}(hi:i<32):
  Calls prog 97 #[b,(i:Int)] w (za w (az B ps) T own i):=by
 refine(get_at h.sh h.w64 (i:Int)).mono ?_;rintro e w' ⟨n,v,g,o,va,G,r,rfl,W,hE,hg,hO,xp,z,U⟩;obtain⟨rfl,rfl,J⟩:=h.gots.get hi U;exact⟨v,g,va,G,r,rfl,W,hE,hg,hO,xp,z,J⟩
theorem gU.below{J:Nat}(h:gU w b J B ps T own)(d i:Int):
  Calls prog 114 #[b,d,i] w (dt w (Reach T d i)):=
 Q9 (λx wx z=>by
  refine(get_at (h.keep0 z).sh h.w64 x).mono ?_;rintro e w' ⟨n,v,g,o,va,ga,r,rfl,U,W,hg,V,xp,z,G⟩;obtain⟨a,cap,rfl,-,-,-⟩:=V.reads;exact⟨n,v,g,a,_,cap,r,rfl,U,W,hg,h.gots.succ G,z⟩) h.gots.tabN d i
theorem N7{i:Nat}(h:i<3128):A5 B ps (i:Int)=(az B ps).getD i 0:=by
 unfold A5;rw[aB,aG]
theorem Vy (X:List Int):lq X↔(∀i:Nat,i<8->EO (i:Int) (X.getD i 0))/\∀k:Nat,k<4->X.getD (820+k) 0=0:=by
 unfold lq EO;constructor
 ·rintro⟨V,J,G,z,W⟩
  refine⟨λi hi=>⟨λe=> ?_,λe=> ?_,λe=> ?_,λe=>z i (by omega) hi⟩,λk hk=>W _ (by omega) (by omega)⟩
  ·obtain rfl:i=0:=by omega
   exact V
  ·obtain rfl:i=1:=by omega
   exact J
  ·obtain rfl:i=2:=by omega
   exact G
 ·rintro⟨h,g⟩
  refine⟨(h 0 (by omega)).1 rfl,(h 1 (by omega)).2.1 rfl,(h 2 (by omega)).2.2.1 rfl,λi z U=>(h i U).2.2.2 (by omega),λi J G=> ?_⟩;have :=g (i-820) (by omega);rwa[show 820+(i-820)=i by omega] at this
theorem I7 (h:eK w b gp B ps):
  Calls prog 81 #[b] w (dt w (lq (az B ps))):=by
 have HG:Hid (∀i:Nat,i<3128->Calls prog 127 #[b,(i:Int)] w λe w'=>e= .returned (.int .u64 ((az B ps).getD i 0))/\w=w'):=λi hi=>by
  have :=pz h (i:Int);rwa[N7 hi] at this
 have HP:Hid (∀r:Bool,(r=true↔(∀i:Nat,i<8->EO (i:Int) ((az B ps).getD i 0))/\∀k:Nat,k<4->(az B ps).getD (820+k) 0=0)->dt w (lq (az B ps)) (.returned (.bool r)) w):=λr hr=>⟨r,rfl,hr.trans (Vy _).symm,ay.refl _ _⟩
 clear h;generalize az B ps=X at *;generalize lq X=pS at *;go_in;go_wp2_with fail;go_loopg [3] 8 (λgh s3 wx=>w=wx/\∃k:Nat,k+gh=8/\s3= .int .i64 (k:Int)/\Hid (∀i:Nat,i<k->EO (i:Int) (X.getD i 0)))
 case atStart=>exact⟨rfl,0,by omega,rfl,λi hi=>by omega⟩
 case round=>
  obtain⟨rfl,k,hk,rfl,V⟩:=hrel;cases gk with
  |succ gg=>
   have xI:(k:Int)<8:=by omega
   have cJ:(0:Int)<=(k:Int):=by omega
   obtain⟨z,ac⟩:=hh2 (HG.out k (by omega)) (I6 (k:Int) (X.getD k 0) cJ);have G:Hid (EO (k:Int) (X.getD k 0)->∀i:Nat,i<k+1->EO (i:Int) (X.getD i 0)):=λW i hi=>by
    by_cases e:i=k
    ·rw[e];exact W
    ·exact V.out i (by omega)
   have J:Hid (¬EO (k:Int) (X.getD k 0)->¬((∀i:Nat,i<8->EO (i:Int) (X.getD i 0))/\∀k:Nat,k<4->X.getD (820+k) 0=0)):=λW hh=>W (hh.1 k (by omega))
   generalize X.getD k 0=x at *;clear V HG;go_wp2_with fail;refine C' z.out ?_;clear z;go_wp2_with fail;refine(ac.out _).mono ?_;rintro e w1 ⟨⟨r,rfl,hr⟩,rfl⟩;clear ac;cases r
   ·have HF:=ar (HP.out false ⟨(λh=>by cases h),λhh=>absurd hh (J.out λW=>by cases hr.2 W)⟩)
    clear G J HP hr;go_wp2_with fail;go_ret;exact HF.out
   ·have HN:=ar (G.out (hr.1 rfl))
    clear G J hr;go_wp2_with fail;go_roundg gg;case measure=>omega
    case rel=>exact⟨rfl,k+1,by omega,by go_num,HN.out⟩
  |zero=>
   obtain rfl:k=8:=by omega
   have H8:=ar V.out;clear V hk;go_wp2_with fail;go_loopg [4] 4 (λgh s4 wx=>w=wx/\∃k:Nat,k+gh=4/\s4= .int .i64 ((820+k:Nat):Int)/\Hid (∀i:Nat,i<k->X.getD (820+i) 0=0))
   case atStart=>exact⟨rfl,0,by omega,rfl,λi hi=>by omega⟩
   case round=>
    obtain⟨rfl,k,hk,rfl,V⟩:=hrel;have z:Hid (k<4->Calls prog 127 #[b,((820+k:Nat):Int)] w λe w'=>e= .returned (.int .u64 (X.getD (820+k) 0))/\w=w'):=λag=>HG.out (820+k) (by omega)
    have G:Hid (X.getD (820+k) 0=0->∀i:Nat,i<k+1->X.getD (820+i) 0=0):=λW i hi=>by
     by_cases e:i=k
     ·rw[e];exact W
     ·exact V.out i (by omega)
    have J:Hid (k<4->X.getD (820+k) 0≠0->¬((∀i:Nat,i<8->EO (i:Int) (X.getD i 0))/\∀k:Nat,k<4->X.getD (820+k) 0=0)):=λh4 W hh=>W (hh.2 k h4)
    obtain⟨q,hq⟩:∃q,820+k=q:=⟨_,rfl⟩;rw[hq] at z G J;rw[hq];have HQ:=ar hq;generalize X.getD q 0=x at *;cases gk with
    |succ g2=>
     have ae:(q:Int)<824:=by omega
     have af:(0:Int)<=(q:Int):=by omega
     have U:=ar (z.out (by omega));have aa:k<4:=by omega
     clear z V HG H8 hq;by_cases hx:x=0
     ·subst hx
      have HN:=ar (G.out rfl);clear G J aa;go_wp2_with fail;refine C' U.out ?_;clear U;go_wp2_with fail;go_roundg g2;case measure=>omega
      case rel=>exact⟨rfl,k+1,by omega,by have :=HQ.out;go_num,HN.out⟩
     ·have hb:(x != 0)=true:=bne_iff_ne.2 hx
      have HF:=ar (HP.out false ⟨(λh=>by cases h),λhh=>absurd hh (J.out aa hx)⟩);clear G J HP hx aa;go_wp2_with fail;refine C' U.out ?_;clear U;go_wp2_with fail;go_ret;exact HF.out
    |zero=>
     obtain rfl:k=4:=by omega
     have ae:¬(q:Int)<824:=by omega
     have HF:=ar (HP.out true ⟨λ_=>⟨H8.out,V.out⟩,λ_=>rfl⟩);clear G J HP z V H8 HG hq;go_wp2_with fail;go_ret;exact HF.out
theorem Vz (h:gU w b gp B ps T own):
  Calls prog 82 #[b] w (dt w (wU (az B ps) T)):=by
 have HG:Hid (∀U,ay [] w U->∀i:Nat,i<32->Calls prog 97 #[b,(i:Int)] U (za U (az B ps) T own i)):=λU hk i hi=>(h.keep0 hk).get hi
 have HP:Hid (∀(r:Bool) w',(r=true↔∀i:Nat,i<32->dR (az B ps) (i:Int)\/(nT T i).F≠0)->ay [] w w'->dt w (wU (az B ps) T) (.returned (.bool r)) w'):=λr w' hr hk=>⟨r,rfl,hr,hk⟩
 have rG:=dz;obtain⟨Z0,C7⟩:∃Z0,aM cg (.slice none 0 0)=Z0:=⟨_,rfl⟩;have Ld:Hid (Z0.size=18):=by show _=_;rw[<-C7];rfl
 rw[C7] at rG;clear h C7;generalize wU (az B ps) T=pP at *;generalize az B ps=X at *;go_in;go_wp2_with fail;go_loopg [7] 32 (λgh s7 U=>∃k:Nat,k+gh=32/\s7= .int .i64 (k:Int)/\Hid (ay [] w U/\∀i:Nat,i<k->dR X (i:Int)\/(nT T i).F≠0))
 case atStart=>exact⟨0,by omega,rfl,ay.refl _ _,λi hi=>by omega⟩
 case round=>
  obtain⟨k,hk,rfl,G⟩:=hrel;cases gk with
  |zero=>
   obtain rfl:k=32:=by omega
   have HF:=ar (HP.out true _ ⟨λ_=>G.out.2,λ_=>rfl⟩ G.out.1);clear G HP HG;go_wp2_with fail;go_ret;exact HF.out
  |succ gg=>
   have xI:(k:Int)<32:=by omega
   have vI:k<32:=by omega
   have aa:=ar (HG.out _ G.out.1 k vI);clear HG;go_wp2_with fail;refine aa.out.mono ?_;rintro e w3 ⟨v,g,va,ga,r,rfl,hB,hE,hg,hO,xp,V,hr⟩;obtain⟨w4,p1,p2,p3⟩:=cu (n:=nT T k) (v:=v) (bh.new w3 Z0 111) Ld.out hB hE.one;have tZ:=ar p1;have qb:Hid (ay [] w w4):=(G.out.1.trans' V).trans' (((ay.refl [] w3).alloc _).trans p3 (by intro x hx;rw[au] at hx;omega));obtain⟨J,z⟩:=hh2 hr G.out.2;clear hB hE hg hO xp V hr p1 p2 p3 G aa;generalize aM (nT T k) v=ZN at *;by_cases W:r=0
   ·subst W
    have HN:Hid (∀i:Nat,i<k+1->dR X (i:Int)\/(nT T i).F≠0):=λi hi=>by
     by_cases e:i=k
     ·rw[e]
      rcases J.out with ⟨-,h⟩|⟨h,-⟩|⟨h,-⟩
      ·exact .inr h
      ·omega
      ·omega
     ·exact z.out i (by omega)
    clear J z;go_wp2_with(with_reducible refine gS 111 tZ.out ?_);go_roundg gg;case measure=>omega
    case rel=>exact⟨k+1,by omega,by go_num,qb.out,HN.out⟩
   ·have b0:(r != 0)=true:=bne_iff_ne.2 W
    by_cases h2:r=2
    ·subst h2
     have HN:Hid (∀i:Nat,i<k+1->dR X (i:Int)\/(nT T i).F≠0):=λi hi=>by
      by_cases e:i=k
      ·rw[e]
       rcases J.out with ⟨h,-⟩|⟨-,-,h⟩|⟨h,-⟩
       ·omega
       ·exact .inl h
       ·omega
      ·exact z.out i (by omega)
     clear J z W;go_wp2_with(with_reducible refine gS 111 tZ.out ?_);go_roundg gg;case measure=>omega
     case rel=>exact⟨k+1,by omega,by go_num,qb.out,HN.out⟩
    ·have b2:(r != 2)=true:=bne_iff_ne.2 h2
     have HF:Hid (dt w pP (.returned false) w4):=HP.out false _ ⟨(λh=>by cases h),λhh=>by
      rcases J.out with ⟨h,-⟩|⟨h,-⟩|⟨-,h3,h4⟩
      ·exact absurd h W
      ·exact absurd h h2
      ·rcases hh k vI with h|h
       ·exact absurd h h4
       ·exact absurd h3 h⟩ qb.out
     clear J z W h2 HP;go_wp2_with(with_reducible refine gS 111 tZ.out ?_);go_ret;exact HF.out
theorem I8 (h:gU w b gp B ps T own):
  Calls prog 85 #[b] w (dt w (Hb (az B ps) T)):=by
 have zX:Hid (∀J,ay [] w J->∀i:Nat,i<32->Calls prog 129 #[b,(i:Int)] J λe w'=>e=(decide (dR (az B ps) (i:Int)))/\ay [] J w'):=λJ hk i hi=>by
  have :=Fe (h.keep0 hk).sh (i:Int);rwa[show decide ((0<=(i:Int)/\(i:Int)<32)/\dR (az B ps) (i:Int))=decide (dR (az B ps) (i:Int)) by rw[decide_eq_decide];exact⟨λh=>h.2,λh=>⟨⟨by omega,by omega⟩,h⟩⟩] at this
 have U:Hid (∀J,ay [] w J->∀i:Nat,Calls prog 114 #[b,(0:Int),(i:Int)] J (dt J (Reach T 0 (i:Int)))):=λJ hk i=>(h.keep0 hk).below 0 (i:Int)
 have HP:Hid (∀(r:Bool) w',(r=true↔∀i:Nat,i<32->¬dR (az B ps) (i:Int)->Reach T 0 (i:Int))->ay [] w w'->dt w (Hb (az B ps) T) (.returned (.bool r)) w'):=λr w' hr hk=>⟨r,rfl,hr,hk⟩
 clear h;generalize Hb (az B ps) T=pP at *;generalize az B ps=X at *;go_in;go_wp2_with fail;go_loopg [4] 32 (λgh s4 J=>∃k:Nat,k+gh=32/\s4= .int .i64 (k:Int)/\Hid (ay [] w J/\∀i:Nat,i<k->¬dR X (i:Int)->Reach T 0 (i:Int)))
 case atStart=>exact⟨0,by omega,rfl,ay.refl _ _,λi hi=>by omega⟩
 case round=>
  obtain⟨k,hk,rfl,W⟩:=hrel;cases gk with
  |zero=>
   obtain rfl:k=32:=by omega
   have HF:=ar (HP.out true _ ⟨λ_=>W.out.2,λ_=>rfl⟩ W.out.1);clear W HP zX U;go_wp2_with fail;go_ret;exact HF.out
  |succ gg=>
   have xI:(k:Int)<32:=by omega
   have vI:k<32:=by omega
   obtain⟨S8,z,CS⟩:=hh3 (zX.out _ W.out.1 k vI) W.out.2 W.out.1;clear W zX;by_cases hf:dR X (k:Int)
   ·rw[bu hf] at S8
    have HN:Hid (∀i:Nat,i<k+1->¬dR X (i:Int)->Reach T 0 (i:Int)):=λi hi hn=>by
     by_cases e:i=k
     ·rw[e] at hn;exact absurd hf hn
     ·exact z.out i (by omega) hn
    clear hf z U;go_wp2_with fail;refine Rr S8.out λw1 G=> ?_;have jK:=ar (CS.out.trans' G);clear G S8 CS;go_wp2_with fail;go_roundg gg;case measure=>omega
    case rel=>exact⟨k+1,by omega,by go_num,jK.out,HN.out⟩
   ·rw[aQ hf] at S8
    have V:=ar hf;clear hf;go_wp2_with fail;refine Rr S8.out λw1 G=> ?_;have jK:=ar (CS.out.trans' G);have zN:=ar (U.out _ jK.out k);clear G S8 CS U;go_wp2_with fail;refine zN.out.mono ?_;rintro e w2 ⟨r,rfl,hr,aa⟩;obtain⟨fx,HR⟩:=hh2 (jK.out.trans' aa) hr;clear aa hr jK zN;cases r
    ·have HF:=ar (HP.out false _ ⟨(λh=>by cases h),λhh=>HR.out.2 (hh k vI V.out)⟩ fx.out)
     clear HP HR z V;go_wp2_with fail;go_ret;exact HF.out
    ·have HN:Hid (∀i:Nat,i<k+1->¬dR X (i:Int)->Reach T 0 (i:Int)):=λi hi hn=>by
      by_cases e:i=k
      ·rw[e];exact HR.out.1 rfl
      ·exact z.out i (by omega) hn
     clear HP HR z V;go_wp2_with fail;go_roundg gg;case measure=>omega
     case rel=>exact⟨k+1,by omega,by go_num,fx.out,HN.out⟩
def dQ (n:Nat) (f:Nat->Nat):List Nat:=(List.range n).map f
theorem qB (n:Nat)(f:Nat->Nat):(dQ n f).length=n:=by simp[dQ]
theorem Rb (h:j<n):(dQ n f).getD j 0=f j:=by
 unfold dQ;rw[aj,bJ,cB h];rfl
theorem yx (h:j<n):(dK (dQ n f)).toArray[j]? =some (.int .i64 (f j:Int)):=by
 rw[aF,nB (by rw[qB];exact h),Rb h]
theorem tG (h:∀j,j<n->f j=f' j):dQ n f=dQ n f':=by
 unfold dQ;exact dM λj z=>h j (bW.1 z)
theorem Rc (f:Nat->Nat){y:Nat}(x:Nat):(dQ n f).set y x=dQ n λq=>if q=y then x else f q:=by
 unfold dQ;apply cU (by simp);intro j J z;have G:j<n:=by simpa using z
 rw[List.getElem_set];simp only[ic,j0];by_cases e:y=j
 ·subst e;simp
 ·rw[aA e,aA (λh=>e h.symm)]
theorem LM{T:Nat}(z:bh w g (dK (dQ n f)).toArray T){j:Nat}(h:j<n):w.cell? ⟨g,j,none⟩=some (.int .i64 (f j:Int)):=by
 rw[z.cell,yx h]
theorem N8{T:Nat}(z:bh w g (dK (dQ n f)).toArray T)(y:Nat)(G:∀q,q<n->f' q=if q=y then f y+1 else f q){x:Int}(J:x=((f y+1:Nat):Int)):bh (w.setCell ⟨g,y,none⟩ (.int .i64 x)) g (dK (dQ n f')).toArray T:=by
 subst J;have :=z.set y (.int .i64 ((f y+1:Nat):Int));rw[ag] at this;have h:(dK (dQ n f)).set y (.int .i64 ((f y+1:Nat):Int))=dK ((dQ n f).set y (f y+1)):=by simp[dK,List.map_set]
 rw[h,Rc,<-tG G] at this;exact this
theorem N9 (w:World):(zeroValue 182).run prog w= .ok (.agg (dK (dQ 32 λ_=>0)).toArray) w:=by kernel_rfl
theorem VA (w:World):(zeroValue 189).run prog w= .ok (.agg (dK (dQ 256 λ_=>0)).toArray) w:=by kernel_rfl
theorem Oa:(prog.info? 182).map (·.size)=some 32:=by kernel_rfl
theorem VB:(prog.info? 189).map (·.size)=some 256:=by kernel_rfl
theorem Y2 (l:List Nat):∀u∈dK l,u.oneCell'=true:=by
 intro u h;unfold dK at h;obtain⟨x,-,rfl⟩:=bF.1 h;rfl
theorem Ob{T:Nat}(h:bh w g (dK (dQ 32 f)).toArray T):(loadVar 182 g).run prog w= .ok (.agg (dK (dQ 32 f)).toArray) w:=
 b7 g 0 (dK (dQ 32 f)) underlying182 rfl (by rw[fk,qB];exact Oa) λj z=>by
  rw[h.cell,bc,aF]
theorem VC{T:Nat}(h:bh w g (dK (dQ 256 f)).toArray T):(loadVar 189 g).run prog w= .ok (.agg (dK (dQ 256 f)).toArray) w:=
 b7 g 0 (dK (dQ 256 f)) underlying189 rfl (by rw[fk,qB];exact VB) λj z=>by
  rw[h.cell,bc,aF]
theorem Ki{T:Nat}(h:bh w g (dK (dQ 32 f)).toArray T):
  ∃w',(storeVar 182 g (.agg (dK (dQ 32 f')).toArray)).run prog w= .ok () w'/\bh w' g (dK (dQ 32 f')).toArray T/\ay [g] w w':=
 bH (P:= prog) (ty:= 182) (cs:=dK (dQ 32 f')) (by rw[fk,qB];exact Oa) h (by rw[bN,fk,fk,qB,qB]) (Y2 _)
def AH (T:List (bT×Value)) (own:Nat->List Nat) (i:Nat):List Nat:=own i++dm (nT T i)
theorem qC{n:bT}(U:n.B.length=13)(J:cm n):∀c∈dm n,c≠0/\c<256:=λc z=>by
 unfold dm ey at z;obtain⟨x,h,rfl⟩:=bF.1 z;rw[List.mem_filter] at h;obtain⟨k,G,e⟩:=bY (bO h.1);have V:=vA J U k;rw[aj,aD G,eZ,e] at V;have W:x≠0:=by simpa using h.2
 omega
theorem rH.all(h:rH X T own)(i:Nat)(U:i<32):(∀c∈AH T own i,c≠0/\c<256)/\(AH T own i).length<=45:=by
 unfold AH;rcases h.form i with ⟨-,-,G⟩|⟨-,G,J⟩
 ·refine⟨λc z=> ?_,?_⟩
  ·rcases aT.1 z with z|z
   ·exact G.mem c z
   ·exact qC G.len G.right c z
  ·rw[aC]
   have V:=G.ownLen;have W:=vH G.right;have h5:(dm (nT T i)).length<=13:=AB _ _;omega
 ·rw[(J U).1,G]
  have :dm cg=[]:=by decide
  rw[this];exact⟨λc z=>by simp at z,by simp⟩
theorem gU.all(h:gU w b gp B ps T own){i:Nat}(V:i<32):
  Calls prog 132 #[b,(i:Int)] w λe w'=>∃v g,e=(v:Value)/\Reads w' v g (dK (AH T own i))/\ay [] w w'/\(AH T own i≠[]->w.heap.size<=g):=by
 refine(abU h.sh h.w64 (i:Int)).mono ?_;rintro e w' ⟨v,g,l,rfl,hr,W,J,hg⟩;have e:l=AH T own i:=by
  unfold AH;rcases h.gots.form i with ⟨-,-,G⟩|⟨-,G,U⟩
  ·rcases J with ⟨n,o,z,rfl⟩|⟨z,-⟩
   ·obtain⟨e1,e2⟩:=G.uniq z
    rw[e1,e2]
   ·exact absurd G (z _ _)
  ·rcases J with ⟨n,o,z,-⟩|⟨-,rfl⟩
   ·exact absurd z ((U V).2 _ _)
   ·rw[(U V).1,G]
    rfl
 subst e;exact⟨v,g,rfl,hr,W,hg⟩
theorem Oc {T:List (bT×Value)}{own:Nat->List Nat}(h:∀i,i<32->(AH T own i).length<=45):∀k b,k<=32->kr T own k b<=45*k
 |0,_,_=>fC _
 |k+1,b,hk=>by
  have G:=Oc h k b (by omega);have z:=h k (by omega);have J:(own k++dm (nT T k)).count b<=_:=List.count_le_length;unfold AH at z;show kr T own k b+_<=_;omega
theorem EP {l:List Nat}{j:Nat}(z:j<l.length)(b:Nat):(l.take (j+1)).count b=if b=l.getD j 0 then (l.take j).count b+1 else (l.take j).count b:=by
 rw[bP z,fL,List.count_singleton];have :l.getD j 0=l[j]:=by rw[aj,aD z];rfl
 rw[this];by_cases e:b=l[j]
 ·subst e;simp
 ·rw[aA e]
  simp;exact λh=>e h.symm
theorem I9 (h:gU w b gp B ps T own):
  Calls prog 86 #[(b:Nat)] w (dt w (S7 (az B ps) T own)):=by
 have uo:Hid (∀U,ay [] w U->∀i:Nat,i<32->Calls prog 132 #[(b:Nat),(i:Int)] U λe w'=>∃v g,e=(v:Value)/\Reads w' v g (dK (AH T own i))/\ay [] U w'/\(AH T own i≠[]->U.heap.size<=g)):=λU hk i hi=>(h.keep0 hk).all hi
 have ac:Hid (∀U,ay [] w U->∀c:Nat,c<256->Calls prog 133 #[(b:Nat),(c:Int)] U λe w'=>e=(dF (az B ps) c:Bool)/\U=w'):=λU hk c hc=>by
  have :=Vt (h.keep0 hk).sh h.w64 (c:Int);rwa[Y0,aB (xU.2 ⟨by omega,by omega⟩),aG] at this
 have ai:Hid (∀i,i<32->(∀c∈AH T own i,c≠0/\c<256)/\(AH T own i).length<=45):=λi hi=>h.gots.all i hi
 have aC:Hid (∀k c,k<=32->kr T own k c<=45*k):=Oc λi hi=>(h.gots.all i hi).2
 have aL:Hid (∀k c,kr T own (k+1) c=kr T own k c+(AH T own k).count c):=λk c=>rfl
 have HP:Hid (∀(r:Bool) w',(r=true↔∀b:Nat,b<256->kr T own 32 b<=1/\(dF (az B ps) b=true↔kr T own 32 b=1))->ay [] w w'->dt w (S7 (az B ps) T own) (.returned (.bool r)) w'):=λr w' hr hk=>⟨r,rfl,hr,hk⟩
 have bb:=VA;have qa:Hid (bh (w.alloc (.cells (dK (dQ 256 λ_=>0)).toArray 189)) w.heap.size (dK (dQ 256 λc=>kr T own 0 c)).toArray 189):=bh.new w _ _;have fI:Hid (ay [] w (w.alloc (.cells (dK (dQ 256 λ_=>0)).toArray 189))):=(ay.refl [] w).alloc _;clear h;generalize S7 (az B ps) T own=pP at *;generalize az B ps=X,kr T own=J,AH T own=W,(dK (dQ 256 λ_=>0)).toArray=Z0 at *;go_in;go_wp2_with fail;go_loopg [9] 32 (λgh s9 U=>∃k:Nat,k+gh=32/\s9= .int .i64 (k:Int)/\Hid (ay [] w U/\bh U w.heap.size (dK (dQ 256 λc=>J k c)).toArray 189))
 case atStart=>exact⟨0,by omega,rfl,fI.out,qa.out⟩
 case round=>
  clear qa fI;obtain⟨k,hk,rfl,G⟩:=hrel;cases gk with
  |succ gg=>
   have xI:(k:Int)<32:=by omega
   have vI:k<32:=by omega
   have aP:=ar (uo.out _ G.out.1 k vI);obtain⟨aK,aR⟩:=ai.out k vI;obtain⟨aF,Ml⟩:=hh2 aK (λc=>aC.out k c (by omega));have aU:=G.out.2.lt;clear aK uo ai ac HP;go_wp2_with fail;refine aP.out.mono ?_;rintro e w3 ⟨v,g,rfl,hr,ax,hg⟩;obtain⟨a,cap,rfl,ag,aX,ah⟩:=hr;rw[fk] at ag ah ⊢;have aH:Hid (W k≠[]->g≠w.heap.size):=λh0=>by have :=hg h0;omega
   have Mo:Hid (∀j,j<(W k).length->∃off,a=some ⟨g,off,none⟩/\g<w3.heap.size/\w3.cell? ⟨g,off+j,none⟩=some (.int .i64 (((W k).getD j 0:Nat):Int))/\g≠w.heap.size):=λj hj=>by
    have aI:W k≠[]:=λe=>by rw[e] at hj;simp at hj
    obtain⟨h1,off,h2,h3⟩:=ah (λe=>aI (by unfold dK at e;simpa using e));exact⟨off,h2,h1,by rw[h3 j hj,nB hj],aH.out aI⟩
   have qI:Hid (bh w3 w.heap.size (dK (dQ 256 λc=>J k c+((W k).take 0).count c)).toArray 189):=G.out.2.keep ax (by simp);obtain⟨oI,af⟩:=hh2 (G.out.1.trans' ax) (λj hj=> @EP (W k) j hj);have nG:Hid (∀U,bh U w.heap.size (dK (dQ 256 λc=>J k c+((W k).take (W k).length).count c)).toArray 189->bh U w.heap.size (dK (dQ 256 λc=>J (k+1) c)).toArray 189):=λU hb=>by
    rw[tG (λc _=>aL.out k c)];rwa[gy] at hb
   have av:Hid (∀j c,((W k).take j).count c<=45):=λj c=>cE List.count_le_length (by rw[aJ];omega)
   have ae:Hid (∀j,j<(W k).length->(W k).getD j 0<256):=λj hj=>(aF.out _ (by rw[aj,aD hj];exact bG hj)).2
   clear ax hg ah ag aX G aP aH aF aU;obtain⟨m,hm⟩:∃m,(W k).length=m:=⟨_,rfl⟩;rw[hm] at Mo af nG ae aR;rw[hm];clear hm;generalize W k=L at *;go_wp2_with fail;go_loopg [16] m (λgh s16 U=>∃j:Nat,j+gh=m/\s16= .int .i64 (j:Int)/\Hid (ay [w.heap.size] w3 U/\bh U w.heap.size (dK (dQ 256 λc=>J k c+(L.take j).count c)).toArray 189))
   case atStart=>exact⟨0,by omega,rfl,ay.refl _ _,qI.out⟩
   case round=>
    clear qI;obtain⟨j,hj,rfl,G⟩:=hrel;cases gk with
    |zero=>
     obtain rfl:j=m:=by omega
     have HF:Hid (ay [] w wr/\bh wr w.heap.size (dK (dQ 256 λc=>J (k+1) c)).toArray 189):=⟨oI.out.trans G.out.1 (by intro x hx;rw[au] at hx;omega),nG.out _ G.out.2⟩;clear G nG Mo af av ae;go_wp2_with fail;go_roundg gg;case measure=>omega
     case rel=>exact⟨k+1,by omega,by go_num,HF.out⟩
    |succ g2=>
     have aM:j<m:=by omega
     have Qe:(j:Int)<(m:Int):=by omega
     have Cf:(0:Int)<=(j:Int):=by omega
     obtain⟨off,rfl,aW,d1,S5⟩:=Mo.out j aM;have c1:wr.cell? ⟨g,off+j,none⟩=some (.int .i64 ((L.getD j 0:Nat):Int)):=(aO (a:=⟨g,off+j,none⟩) (G.out.1.block g aW (by simpa using S5))).trans d1;have hy:=ae.out j aM;have aQ:=λc=>af.out j (by omega) c
     have aT:=Ml.out (L.getD j 0);have aS:=av.out j (L.getD j 0);generalize L.getD j 0=y at *;have c2:=LM G.out.2 (j:=y) hy;obtain⟨z,hz⟩:∃z,J k y+(L.take j).count y=z:=⟨_,rfl⟩;rw[hz] at c2;have aZ:z<=1600:=by omega
     have PE:Hid (∀x:Int,x=((z+1:Nat):Int)->bh (wr.setCell ⟨w.heap.size,y,none⟩ (.int .i64 x)) w.heap.size (dK (dQ 256 λc=>J k c+(L.take (j+1)).count c)).toArray 189):=λx hx=>N8 G.out.2 y (λq hq=>by
      rw[aQ q];by_cases e:q=y
      ·subst e;rw[aB rfl,aB rfl];omega
      ·rw[aA e,aA e]) (by rw[hx,hz])
     have f2:=G.out.2.frozen y;have nL:=ar G.out.1;have aY:(0:Int)<=(y:Int):=by omega
     have ba:(y:Int)<256:=by omega
     clear G d1 aQ hz aT aS Mo af av ae;go_wp2_with fail;go_roundg g2;case measure=>omega
     case rel=>exact⟨j+1,by omega,by go_num,nL.out.setCell (.inl (by simp)) _,PE.out _ (by go_num)⟩
  |zero=>
   obtain rfl:k=32:=by omega
   have nL:=ar G.out.1;have HL:Hid ((loadVar 189 w.heap.size).run prog wr= .ok (.agg (dK (dQ 256 λc=>J 32 c)).toArray) wr):=VC G.out.2;have HZ:Hid (∀c,c<256->(dK (dQ 256 λc=>J 32 c)).toArray[c]? =some (.int .i64 (J 32 c:Int))):=λc hc=>yx hc
   have ak:=ar (λc=>aC.out 32 c (by omega));clear G uo ai aC aL hk;generalize (dK (dQ 256 λc=>J 32 c)).toArray=ZC at *;go_wp2_with(with_reducible refine gL 189 HL.out ?_);go_loopg [28] 256 (λgh s28 U=>wr=U/\∃c:Nat,c+gh=256/\s28= .int .i64 (c:Int)/\Hid (∀b:Nat,b<c->J 32 b<=1/\(dF X b=true↔J 32 b=1)))
   case atStart=>exact⟨rfl,0,by omega,rfl,λi hi=>by omega⟩
   case round=>
    obtain⟨rfl,c,hc,rfl,G⟩:=hrel;cases gk with
    |zero=>
     obtain rfl:c=256:=by omega
     have HF:=ar (HP.out true _ ⟨λ_=>G.out,λ_=>rfl⟩ nL.out);clear G HP HZ ak ac HL;go_wp2_with fail;go_ret;exact HF.out
    |succ g2=>
     have V:c<256:=by omega
     have PC:(c:Int)<256:=by omega
     have Iv:=ma 189 3 256 .i64 ZC c _ underlying189 underlying3 oV V (HZ.out c V);have aa:=ar (ac.out _ nL.out c V);have hm:=ak.out c;have nG:Hid ((J 32 c<=1/\(dF X c=true↔J 32 c=1))->∀b:Nat,b<c+1->J 32 b<=1/\(dF X b=true↔J 32 b=1)):=λhh b hb=>by
      by_cases e:b=c
      ·rw[e];exact hh
      ·exact G.out b (by omega)
     have j6:Hid (¬(J 32 c<=1/\(dF X c=true↔J 32 c=1))->¬∀b:Nat,b<256->J 32 b<=1/\(dF X b=true↔J 32 b=1)):=λhh ha=>hh (ha c V)
     generalize dF X c=u,J 32 c=z at *;clear G HZ ak ac HL;by_cases h1:1<z
     ·have aV:(1:Int)<(z:Int):=by omega
      have HF:=ar (HP.out false _ ⟨(λh=>by cases h),λhh=>absurd hh (j6.out λh=>by omega)⟩ nL.out);clear nG j6 HP h1;go_wp2_with fail;go_ret;exact HF.out
     ·have aV:¬(1:Int)<(z:Int):=by omega
      by_cases hz:z=1
      ·subst hz
       cases u
       ·have HF:=ar (HP.out false _ ⟨(λh=>by cases h),λhh=>absurd hh (j6.out λh=>by simp at h)⟩ nL.out)
        clear nG j6 HP h1;go_wp2_with fail;refine C' aa.out ?_;go_wp2_with fail;go_ret;exact HF.out
       ·have HN:=ar (nG.out ⟨by omega,by simp⟩)
        clear nG j6 HP h1;go_wp2_with fail;refine C' aa.out ?_;go_wp2_with fail;go_roundg g2;case measure=>omega
        case rel=>exact⟨rfl,c+1,by omega,by go_num,HN.out⟩
      ·obtain rfl:z=0:=by omega
       cases u
       ·have HN:=ar (nG.out ⟨by omega,by simp⟩)
        clear nG j6 HP h1 hz;go_wp2_with fail;refine C' aa.out ?_;go_wp2_with fail;go_roundg g2;case measure=>omega
        case rel=>exact⟨rfl,c+1,by omega,by go_num,HN.out⟩
       ·have HF:=ar (HP.out false _ ⟨(λh=>by cases h),λhh=>absurd hh (j6.out λh=>by simp at h)⟩ nL.out)
        clear nG j6 HP h1 hz;go_wp2_with fail;refine C' aa.out ?_;go_wp2_with fail;go_ret;exact HF.out
end Go.Proofs.YtepbpdipenedhaaGreatDoor

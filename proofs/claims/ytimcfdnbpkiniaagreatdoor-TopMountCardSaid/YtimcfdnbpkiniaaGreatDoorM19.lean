/- Lemmas. -/
import Derived.Test.YtimcfdnbpkiniaaGreatDoorM18
set_option maxHeartbeats 4000000
set_option maxRecDepth 100000
namespace Go.Proofs.YtimcfdnbpkiniaaGreatDoor
open Go.Proofs.Tryz
open Go.RowKit
variable{B X l:List Int}{G b cap g gp j k n:Nat}{w w':World}{a:Option Addr}{T:List (bT×Value)}{ps:List (Int×Int)}{own:Nat->List Nat}{f f':Nat->Nat}
theorem S5 (h:j<l.length):(zs l)[j]? =some (.int .i64 (l.getD j 0)):=gK h
def Kb (w:World) (h:Prop) (e:Ending) (w':World):Prop:=∃r:Int,e=r/\w=w'/\(0<=r↔h)
theorem Y1 (x:Int)(hR:Reads w (.slice a l.length cap) g (zs l)):
  Calls prog 198 #[.slice a l.length cap,x] w (Kb w (x∈l)):=by
 have HC:Hid (∀j,j<l.length->∃off,a=some ⟨g,off,none⟩/\w.cell? ⟨g,off+j,none⟩=some (.int .i64 (l.getD j 0))):=λj z=>by
  obtain⟨a',V,hv,-,-,h3⟩:=hR
  injection hv with e1 e2 e3
  have ae:zs l≠[]:=λe=>by have :=cP List.length e;rw[eO,cD] at this;omega
  obtain⟨-,off,h5,h6⟩:=h3 ae;exact⟨off,by rw[e1];exact h5,by rw[h6 j (by rw[eO];exact z),S5 z]⟩
 have ac:l.length<=maxLen:=by
  obtain⟨a',V,hv,h1,h2,-⟩:=hR;rw[eO] at h1;omega
 have HM:Hid (∀j,j<l.length->l.getD j 0=x->x∈l):=λj z e=>by
  rw[<-e,aj,aD z];exact bF z
 have W:Hid ((∀j,j<l.length->l.getD j 0≠x)->¬x∈l):=λh hm=>by
  obtain⟨j,z,e⟩:=bW hm;exact h j z (by rw[aj,aD z];exact e)
 unfold maxLen at ac;clear hR;generalize hm:l.length=m at *;clear hm;have U:Hid (∀r:Int,(0<=r↔x∈l)->Kb w (x∈l) (.returned (r:Int)) w):=λr h=>⟨r,rfl,rfl,h⟩
 generalize aa:(x∈l)=px at *;clear aa;go_in;go_wp2_with fail;go_loopg [8] m (λgh s8 wx=>∃k:Nat,k+gh=m/\s8= .int .i64 (k:Int)/\w=wx/\Hid (∀j,j<k->l.getD j 0≠x))
 case atStart=>exact⟨0,by omega,rfl,rfl,λj z=>by omega⟩
 case round=>
  obtain⟨k,hk,rfl,rfl,J⟩:=hrel;cases gk with
  |zero=>
   obtain rfl:k=m:=by omega
   have HF:=ar (U.out (-1) ⟨λh=>by omega,λh=>absurd h (W.out J.out)⟩);clear HC HM W J U;go_wp2_with fail;go_ret;exact HF.out
  |succ gg=>
   have af:(k:Int)<(m:Int):=by omega
   have cM:(0:Int)<=(k:Int):=by omega
   have JK:k<m:=by omega
   obtain⟨off,rfl,c0⟩:=HC.out k JK;by_cases G:l.getD k 0=x
   ·have HF:=ar (U.out (k:Int) ⟨λ_=>HM.out k JK G,λ_=>cM⟩)
    have hb:(x==l.getD k 0)=true:=by rw[G];simp
    clear HC HM W J U G;generalize l.getD k 0=y at *;go_wp2_with fail;go_ret;exact HF.out
   ·have mA:Hid (∀j,j<k+1->l.getD j 0≠x):=λj z=>by
     by_cases e:j=k
     ·rw[e];exact G
     ·exact J.out j (by omega)
    have hb:(x==l.getD k 0)=false:=by rw[cL];exact λe=>G e.symm
    clear HC HM W J U G;generalize l.getD k 0=y at *;go_wp2_with fail;go_roundg gg;case measure=>omega
    case rel=>exact⟨k+1,by omega,by go_num,rfl,mA.out⟩
theorem N4 (x:Int)(h:Reads w (.slice a l.length cap) g (zs l)):
  Calls prog 163 #[.slice a l.length cap,x] w λe w'=>e=(decide (x∈l))/\w=w':=by
 have G:=ar (Y1 x h);clear h;generalize l.length=m at *;go_in;go_wp2_with fail;refine G.out.mono ?_;rintro e w' ⟨r,rfl,rfl,z⟩;have J:=ar z;clear z;go_wp2_with fail;go_ret;refine⟨?_,rfl⟩;show Ending.returned (decide (0<=r))=_;rw[decide_eq_decide.2 J.out]
theorem LI{P:Program}(ah:Nat)(t ty e:TypeId)(i:TypeInfo)(z:Value)(size bytes:Nat)(ht:P.underlying t=some (.slice e))(hi:P.info? e=some i)(hz:i.zero=some z)
  (ae:i.size=size) (au:i.bytes=bytes) (ax:0<size) (g n cap:Nat) (xs:List Value) (U:w.ownsRow ah e size (.slice g n cap) n xs)
  (a:Addr) (m c:Nat) (G:List Value) (hl:G.length=m*size) (J:∀j u,G[j]? =some u->w.cell? (a.add j)=some u) (h1:∀u∈G,u.oneCell'=true)
  (ak:n+m<=maxLen) (aa:(n+m)*bytes<=140737488355328) {v':Value} {w':World} (hr:(Builtin.append_ #[t,t] ty #[.slice g n cap,.slice (some a) m c]).run P w= .ok v' w'):
  v'.ownBlock=some g\/v'.ownBlock=some w.heap.size:=by
 subst ae;subst au;have ai:n+m<=9223372036854775807:=by simp only[maxLen] at ak;omega
 have ac:∀j u,xs[j]? =some u->w.cell? ((⟨g,0,none⟩:Addr).add j)=some u:=U.cells (g:=g) rfl;rcases U.2 with ⟨h,-⟩|⟨g',av,ag,hv,ay,hg,aA,az,aj,ar⟩
 ·cases h
 ·cases hv
  by_cases V:n+m<=cap
  ·have af:n*i.size+G.length<=ag.size:=by rw[hl,aj,<-Nat.add_mul];exact Nat.mul_le_mul_right _ V
   have W:=run_append_room (P:=P) w t ty e i ht hi g n cap ag hg a m c G hl J h1 V af;rw[hr] at W
   injection W with e1 e2
   rw[e1];exact .inl rfl
  ·have W:=run_append_grow (P:=P) w t ty e i z ht hi hz ⟨g,0,none⟩ n cap xs U.1 ac a m c G hl J (by omega) (by omega) (growslice_fits (by omega) aa)
   rw[hr] at W
   injection W with e1 e2
   rw[e1];exact .inr rfl
def dv (w:World) (p:Prop) (e:Ending) (w':World):Prop:=∃r:Bool,e=r/\(r=true↔p)/\ay [] w w'
theorem Em (w:World):(zeroValue 99).run prog w= .ok (.agg #[.string ⟨#[]⟩,(0:Int)]) w:=by kernel_rfl
theorem BL{T:Nat}{h:Array Value}(s:ByteArray)(y:Int)(J:bh w g h T)(G:h.size=2):
  ∃w',(storeVar 99 g (.agg #[.string s,y])).run prog w= .ok () w'/\bh w' g #[.string s,y] T/\ay [g] w w':=
 bG (P:= prog) (ty:= 99) (cs:=[.string s,.int .i64 y]) Gh J (by rw[G];rfl) (by intro u z;simp only[aL,aK,bC] at z;rcases z with rfl|rfl<;>rfl)
theorem Q9 (HG:Hid (∀x wx,ay [] w wx->Calls prog 30 #[b,(x:Int)] wx λe w'=>∃n v g a c cap r,e= .returned (.tuple #[aM n v,.slice a c cap,(r:Int)])/\n.B.length=13/\bD w' v g n.E/\wx.heap.size<=g/\n.E.map (·.2)=o7 T x/\ay [] wx w'))(hN:Q5 T)(d i:Int):
  Calls prog 124 #[b,d,i] w (dv w (Reach T d i)):=by
 have ou:Hid (∀R k,rV T d i R k->R.length<=33):=λR k hb=>hb.len hN
 obtain⟨i0,hi,aN,aK,aU⟩:=df Tryz.info_int;have aR:Hid ((w.alloc (.cells #[d] 3)).ownsRow w.heap.size 3 1 (.slice w.heap.size 1 1) 1 (zs [d])):=
  ⟨rfl,.inr ⟨w.heap.size,1,#[d],rfl,aH _,bh.new w _ _,aH _,by unfold maxLen;omega,rfl,rfl⟩⟩
 have p9:=ar (rV.start T d i);have bO:Hid (∀R k,rV T d i R k->k<=R.length):=λR k V=>V.le
 have IA:Hid (∀R k x,rV T d i R k->R[k]? =some x->x=i->Reach T d i):=λR k x V h2 h3=>V.found h2 h3
 have Ra:Hid (∀R k,rV T d i R k->k=R.length->¬Reach T d i):=λR k V h2=>V.ended h2
 have aI:Hid (∀R k x y,rV T d i R k->R[k]? =some x->y∈o7 T x->y∉R->rV T d i (R++[y]) k/\(R++[y])[k]? =some x):=λR k x y V h2 h3 h4=>V.more h2 h3 h4
 have nE:Hid (∀R k x,rV T d i R k->R[k]? =some x->x≠i->(∀y∈o7 T x,y∈R)->rV T d i R (k+1)):=λR k x V h2 h3 h4=>V.next h2 h3 h4
 have bc:Hid (∀r w',(r=true↔Reach T d i)->ay [] w w'->dv w (Reach T d i) (.returned (.bool r)) w'):=λr w' V h2=>⟨r,rfl,V,h2⟩
 have bz:=dA;obtain⟨Z0,Dd⟩:∃Z0,aM ck (.slice none 0 0)=Z0:=⟨_,rfl⟩;have Lb:Hid (Z0.size=18):=by show _=_;rw[<-Dd];rfl
 rw[Dd] at bz;have bS:=Em;clear Dd hN;generalize bJ:Reach T d i=pR,bN:rV T d i=bI,o7 T=sL at *;clear bJ bN;go_in;go_wp2_with fail;go_loopg [7,8] 33 (λgh s7 s8 wz=>∃(R:List Int) (k:Nat),s8= .int .i64 (k:Int)/\k+gh=33/\Hid (bI R k/\wz.ownsRow w.heap.size 3 1 s7 R.length (zs R)/\ay [] w wz/\R≠[]))
 case atStart=>exact⟨[d],0,rfl,rfl,p9.out,aR.out,(ay.refl _ _).alloc _,by simp⟩
 case round=>
  clear aR p9;obtain⟨R,k,rfl,hk,U⟩:=hrel;obtain⟨gR,ho,aB⟩:=eZ.of_row U.out.2.1;have ag:R.length≠0:=λe=>U.out.2.2.2 (bo e)
  obtain⟨bk,⟨cR,rfl,bj,bt⟩,W,bn⟩:=ho.cell ag;have bA:=ou.out R k U.out.1;have S6:=(aB ag).1;by_cases ah:k<R.length
  ·obtain⟨gg,rfl⟩:∃gg,gk=gg+1:=⟨gk-1,by omega⟩
   have hx:R[k]? =some (R.getD k 0):=by rw[aj,aD ah];rfl
   have c0:wr.cell? ⟨gR,k,none⟩=some (.int .i64 (R.getD k 0)):=by rw[W k (by omega),S5 ah]
   have HX:=ar hx;clear hx W bn ho aB;generalize R.getD k 0=x at *;by_cases Nr:x=i
   ·have zX:=ar (IA.out R k x U.out.1 HX.out Nr)
    have jr:=ar U.out.2.2.1;have bQ:(x==i)=true:=by rw[Nr];simp
    have xD:(k:Int)<(R.length:Int):=by omega
    have cM:(0:Int)<=(k:Int):=by omega
    clear U Nr IA Ra aI nE HG ou;generalize R.length=q at *;go_wp2_with fail;go_ret;exact bc.out true _ ⟨λ_=>zX.out,λ_=>rfl⟩ jr.out
   ·have bQ:(x==i)=false:=by simpa using Nr
    have xD:(k:Int)<(R.length:Int):=by omega
    have cM:(0:Int)<=(k:Int):=by omega
    obtain⟨Y2,bM⟩:=hh2 (HG.out x wr U.out.2.2.1) Nr;clear Nr;obtain⟨q,hq⟩:∃q,R.length=q:=⟨_,rfl⟩;have HQ:=ar hq;rw[hq] at xD ah bA ag bj;rw[hq];clear hq;go_wp2_with fail;refine Y2.out.mono ?_;rintro e w3 ⟨n,v,g,a,c,cap,r,rfl,hB,hE,hg,bf,ak⟩;have bb:=U.out.2.2.1;have bq:=ak.size;obtain⟨an,cn,hv,bV,Ur,-⟩:=hE.open;subst hv;obtain⟨w4,p1,p2,p3⟩:=cz (n:=n) (v:= .slice an n.E.length cn) (bh.new w3 Z0 75) Lb.out hB rfl;have af:ay [] w3 w4:=((ay.refl [] w3).alloc _).trans p3 (by intro x hx;rw[au] at hx;omega);have bL:=af.size;have ba:w4.cell? ⟨w3.heap.size,17,none⟩=some (.slice an n.E.length cn):=by rw[p2.cell];exact(gG _ hB).f5
    have tT:=ar p1;have ae:=U.out.2.1;rw[HQ.out] at ae;obtain⟨nt,aS,qb⟩:=hh3 (eu (eu ae ak (by simp)) af (by simp)) (hE.keep af (by simp)) ((bb.trans' ak).trans' af);have UN:Hid (gR<wr.heap.size/\wr.heap.size<=g/\gR<w4.heap.size/\w.heap.size<=gR):=⟨bk,hg,by omega,S6⟩;obtain⟨Sz,aL⟩:=hh2 bf U.out.1;have bC:n.E.length<=9223372036854775807:=by unfold maxLen at Ur;omega
    clear p1 p2 p3 ak af hE hg bf U bb bq bL ae Y2 bk S6 Ur bt bj;generalize aM n (.slice an n.E.length cn)=ZN at *;obtain⟨mE,hm⟩:∃mE,n.E.length=mE:=⟨_,rfl⟩;have ai:=ar hm;rw[hm] at ba aS bC;clear hm;go_wp2_with(with_reducible refine gS 75 tT.out ?_);clear ba;go_loopg [7,41] mE (λgh s7 s41 wz=>∃(G:List Int) (j:Nat),s41= .int .i64 (j:Int)/\j+gh=mE/\Hid (bI G k/\G[k]? =some x/\(∀t,t<j->jm n.E t∈G)/\wz.ownsRow w.heap.size 3 1 s7 G.length (zs G)/\ay [] w wz/\ay [gR] w4 wz/\(∀kk,s7.ownBlock=some kk->kk=gR\/w4.heap.size<=kk)/\G≠[]))
    case atStart=>exact⟨R,0,rfl,by omega,aL.out,HX.out,(λt ht=>by omega),(by rw[HQ.out];exact nt.out),qb.out,ay.refl _ _,(λkk e=>by simp[Value.ownBlock] at e;exact .inl e.symm),(λe=>ag (by rw[<-HQ.out,e];rfl))⟩
    case round=>
     clear nt aL ah xD ag;obtain⟨G,j,rfl,hj,U⟩:=hrel;obtain⟨q1,q2,q3,q4,q5,q6,q7,q8⟩:=U.out;have br:=ou.out _ _ q1;cases gk with
     |zero=>
      obtain rfl:j=mE:=by omega
      have qV:Hid (bI G (k+1)):=nE.out G k x q1 q2 bM.out (λy hy=>by
       rw[<-Sz.out] at hy;obtain⟨t,ht,e⟩:=bW hy;rw[bY] at ht;have :=q3 t (by rw[<-ai.out];exact ht);rw[ic] at e;rwa[show jm n.E t=y by rw[<-e];simp[jm,ht]] at this)
      have Qu:=ar (And.intro q4 (And.intro q5 q8));clear U q1 q2 q3 q4 q5 q6 q7 q8;go_wp2_with fail;go_roundg gg;case measure=>omega
      case rel=>exact⟨G,k+1,by go_num,by omega,qV.out,Qu.out.1,Qu.out.2.1,Qu.out.2.2⟩
     |succ g2=>
      have av:j<mE:=by omega
      have Qe:(j:Int)<(mE:Int):=by omega
      have Ci:(0:Int)<=(j:Int):=by omega
      obtain⟨J,Mj,bv⟩:=eZ.of_row q4;have bp:G.length≠0:=λe=>q8 (bo e)
      obtain⟨Qn,⟨aG,bK,bR,aY⟩,-,-⟩:=Mj.cell bp;subst bK;have aF:=aS.out;rw[<-ai.out] at aF av;obtain⟨ax,cx,bB,bG,bP,aX⟩:=aF.open
      injection bB with e1 e2 e3
      subst e1 e3;obtain⟨aA,off,rfl,d1,d2⟩:=aX.out j av;rw[ai.out] at av;have Gy:g∉[gR]:=by have :=UN.out;rw[au];omega
      have ac:Hid ((loadVar 99 ⟨g,off+j*2,none⟩).run prog wr= .ok (.agg #[.string (eX n.E j),(jm n.E j:Int)]) wr):=
       AG ((aO (w:=w4) (a:=⟨g,off+j*2,none⟩) (q6.block g aA Gy)).trans d1) ((aO (w:=w4) (a:=⟨g,off+j*2+1,none⟩) (q6.block g aA Gy)).trans d2)
      have aT:jm n.E j∈sL x:=by
       rw[<-Sz.out];have V:j<n.E.length:=by rw[ai.out];exact av
       refine bH.2 ⟨n.E[j],bF V,?_⟩;simp[jm,V]
      obtain⟨w6,p1,p2,p3⟩:=BL (eX n.E j) (jm n.E j) (bh.new wr #[.string ⟨#[]⟩,(0:Int)] 99) rfl;have jv:ay [] wr w6:=((ay.refl [] wr).alloc _).trans p3 (by intro x hx;rw[au] at hx;omega);have c1:w6.cell? ⟨wr.heap.size,1,none⟩=some (.int .i64 (jm n.E j)):=by rw[p2.cell];rfl
      have GA:=ar p1;have aZ:=eu q4 jv (by simp);have bw:Hid (Reads w6 (.slice J G.length aG) J (zs G)):=Mj.reads.keep jv (by simp);obtain⟨Le,aJ⟩:=hh2 (N4 (jm n.E j) bw.out) aZ;have bE:=jv.size;have IB:Hid (bI G k/\G[k]? =some x/\(∀t,t<j->jm n.E t∈G)/\ay [] w w6/\ay [gR] w4 w6/\G≠[]/\(J=gR\/w4.heap.size<=J)/\w4.heap.size<=w6.heap.size/\J<w6.heap.size):=⟨q1,q2,q3,q5.trans' jv,q6.trans jv (by simp),q8,q7 _ rfl,by have :=q6.size;omega,by omega⟩;have bg:=ar aT;clear p1 p2 p3 jv q1 q2 q3 q4 q5 q6 q7 q8 aZ aT d1 d2 aA Gy aX bG bP aF U Mj bv Qn aY bE;obtain⟨y,hy⟩:∃y,jm n.E j=y:=⟨_,rfl⟩;have aW:=ar hy;rw[hy] at ac GA c1 Le bg;clear hy;obtain⟨sN,bl⟩:∃sN,eX n.E j=sN:=⟨_,rfl⟩;rw[bl] at ac GA;clear bl;go_wp2_with(with_reducible first|refine gL 99 ac.out ?_|refine gS 99 GA.out ?_);refine C' Le.out ?_;by_cases aa:y∈G
      ·have hd:decide (y∈G)=true:=bu aa
       rw[hd];have Fb:=ar aa;clear hd aa Le ac GA;go_wp2_with fail;go_roundg g2;case measure=>omega
       case rel=>exact⟨G,j+1,by go_num,by omega,IB.out.1,IB.out.2.1,(λt ht=>by
         by_cases e:t=j
         ·rw[e,aW.out];exact Fb.out
         ·exact IB.out.2.2.1 t (by omega)),aJ.out,IB.out.2.2.2.1,IB.out.2.2.2.2.1,(λkk e=>by simp[Value.ownBlock] at e;rw[<-e];exact IB.out.2.2.2.2.2.2.1),IB.out.2.2.2.2.2.1⟩
      ·have hd:decide (y∈G)=false:=aQ aa
       rw[hd];obtain⟨m1,m2⟩:=aI.out G k x y IB.out.1 IB.out.2.1 bg.out aa;have Mf:=bh.new w6 #[(y:Int)] 3;have bU:G.length<=33:=br;obtain⟨v',w8,hr,aV,Sw⟩:=mi (P:= prog) 76 3 76 i0 _ 1 8 underlying76 hi aN aK aU rfl (by omega) w.heap.size G.length _ _ (aJ.out.alloc (.cells #[(y:Int)] 3)) (some ⟨w6.heap.size,0,none⟩) 1 1 [.int .i64 y] rfl (λ_=>⟨_,rfl,lH _ [_] _ _ rfl⟩) (by simp[Value.oneCell']) (by unfold maxLen;omega) (by omega) (by have V:=UN.out;have h2:=IB.out;simp;omega);have az:=LI (P:= prog) w.heap.size 76 76 3 i0 _ 1 8 underlying76 hi aN aK aU (by omega) J G.length aG _ (aJ.out.alloc (.cells #[(y:Int)] 3)) ⟨w6.heap.size,0,none⟩ 1 1 [.int .i64 y] rfl (lH _ [_] _ _ rfl) (by simp[Value.oneCell']) (by unfold maxLen;omega) (by omega) hr;have uA:ay [J] w6 w8:=((ay.refl [J] w6).alloc (.cells #[(y:Int)] 3)).trans (ay.of_grown (l:=[J]) Sw (λkk e=>by simp[Value.ownBlock] at e;exact .inl (by simp[e]))) (λz hz=> .inl hz);have HN:Hid (bI (G++[y]) k/\(G++[y])[k]? =some x/\(∀t,t<j+1->jm n.E t∈G++[y])/\w8.ownsRow w.heap.size 3 1 v' (G++[y]).length (zs (G++[y]))/\ay [] w w8/\ay [gR] w4 w8/\(∀kk,v'.ownBlock=some kk->kk=gR\/w4.heap.size<=kk)/\G++[y]≠[]):=by
        obtain⟨a1,a2,a3,a4,a5,a6,a7,a8,a9⟩:=IB.out;have V:=UN.out;refine⟨m1,m2,λt ht=> ?_,?_,a4.trans uA (λz hz=>by rw[au] at hz;right;omega),a5.trans uA (λz hz=>by rw[au] at hz;subst hz;rcases a7 with e|e;exact .inl (by simp[e]);exact .inr e),λkk e=> ?_,by simp⟩
        ·by_cases e:t=j
         ·rw[e,aW.out];simp
         ·have :=a3 t (by omega);simp[this]
        ·rw[aC,yQ]
         exact aV
        ·rcases az with e2|e2
         ·rw[e2] at e;injection e with e;rw[<-e];exact a7
         ·rw[e2] at e;injection e with e;rw[<-e];right;simp;omega
       clear hd aa Le ac GA m1 m2 Mf aV Sw az uA;generalize G.length=q' at *;go_wp2_with(at_builtin;refine wpList_append_run rfl (.tmp 50) (.tmp 53) 76 76 ?_ (.slice J q' aG) (.slice w6.heap.size 1 1) ?_ ?_ hr ?_;all_goals first|rfl|skip);go_roundg g2;case measure=>omega
       case rel=>exact⟨G++[y],j+1,by go_num,by omega,HN.out⟩
  ·have xD:¬(k:Int)<(R.length:Int):=by omega
   have aP:k=R.length:=by
    have V:=U.out.1;have h2:k<=R.length:=bO.out R k V;omega
   obtain⟨jY,jr⟩:=hh2 (Ra.out R k U.out.1 aP) U.out.2.2.1;clear U IA Ra aI nE HG ou aP W bn ho aB;generalize R.length=q at *;go_wp2_with fail;go_ret;exact bc.out false _ ⟨(λh=>by cases h),λh=>absurd h jY.out⟩ jr.out
def Y3 (X:List Int) (b:Int):Bool:=if IE b=true then dG X b.toNat else true
theorem Vt (h:eK w b gp B ps)(z:In64 (az B ps))(i:Int):
  Calls prog 141 #[b,i] w λe w'=>e=(Y3 (az B ps) i:Bool)/\w=w':=by
 have G:=ar (Bi i w);unfold Y3;cases hi:IE i
 ·rw[hi] at G
  rw[aA (by simp)];clear hi h;go_in;go_wp2_with(go_at_call 170;refine C' G.out ?_);go_ret;exact⟨rfl,rfl⟩
 ·rw[hi] at G
  rw[aB rfl];obtain⟨W,h1⟩:=xS.1 hi;clear hi;obtain⟨j,rfl⟩:=cA W;have J:j<256:=by omega
  rw[aG];obtain⟨HB,V,U⟩:=hh3 (DT j J w) (xU j J w) (py h ((816+j/64:Nat):Int));rw[CD z (j/64) (by omega)] at U;have ha:=ir (bw (az B ps) (j/64)) (pB j) (FN z _) (KS j);have he:((((bw (az B ps) (j/64) &&& pB j:Nat):Int)) != 0)=dG (az B ps) j:=by
   have :=Xt (bw (az B ps) (j/64)) j;unfold dG;rw[Bool.eq_iff_iff,<-this];simp
  generalize bw (az B ps) (j/64) &&& pB j=y at *;generalize bw (az B ps) (j/64)=x,pB j=m,dG (az B ps) j=u at *;clear h z;go_in;go_wp2_with fail;refine C' G.out ?_;go_wp2_with fail;refine C' HB.out ?_;go_wp2_with fail;refine C' U.out ?_;go_wp2_with fail;refine C' V.out ?_;go_wp2_with fail;go_ret;exact⟨rfl,rfl⟩
structure rI (X:List Int) (T:List (bT×Value)) (own:Nat->List Nat):Prop where
 len:T.length=32
 each:∀i:Nat,i<32->eH X (i:Int) (nT T i) (own i)\/((∀n o,¬eH X (i:Int) n o)/\nT T i=ck/\own i=[])
theorem ab4 (X:List Int):∃T own,rI X T own:=by
 have h:∀i:Nat,∃p:bT×List Nat,eH X (i:Int) p.1 p.2\/((∀n o,¬eH X (i:Int) n o)/\p.1=ck/\p.2=[]):=λi=>by
  by_cases h:∃p:bT×List Nat,eH X (i:Int) p.1 p.2
  ·obtain⟨p,J⟩:=h
   exact⟨p,.inl J⟩
  ·exact⟨(ck,[]),.inr ⟨λn o z=>h ⟨(n,o),z⟩,rfl,rfl⟩⟩
 obtain⟨f,G⟩:=Classical.axiomOfChoice h;refine⟨(List.range 32).map λi=>((f i).1,.slice none 0 0),λi=>(f i).2,by simp,λi U=> ?_⟩;have e:nT ((List.range 32).map λi=>((f i).1,Value.slice none 0 0)) i=(f i).1:=by
  unfold nT;rw[aj,bJ,cC U];rfl
 rw[e];exact G i
theorem N5{i:Int}{n:bT}{o:List Nat}(h:eH X i n o):n.F=1\/n.F=2:=h.right.1
theorem rI.zero(h:rI X T own){i:Nat}(z:32<=i):nT T i=ck:=by
 unfold nT;rw[aj,aP (by rw[h.len];omega)];rfl
theorem rI.form(h:rI X T own)(i:Nat):((nT T i).F≠0/\i<32/\eH X (i:Int) (nT T i) (own i))\/((nT T i).F=0/\nT T i=ck/\(i<32->own i=[]/\∀n o,¬eH X (i:Int) n o)):=by
 rcases dE i 32 with G|G
 ·rcases h.each i G with z|⟨z,J,U⟩
  ·exact .inl ⟨by have :=N5 z;omega,G,z⟩
  ·exact .inr ⟨by rw[J];rfl,J,λ_=>⟨U,z⟩⟩
 ·have :=h.zero G
  exact .inr ⟨by rw[this];rfl,this,λh=>by omega⟩
theorem rI.tabS(h:rI X T own):aey T:=λi G=>by
 rcases h.form i with ⟨z,-⟩|⟨-,J,-⟩
 ·exact absurd G z
 ·rw[J];rfl
theorem rI.tabR(h:rI X T own):ag4 T:=λi G J=>by
 rcases h.form i with ⟨-,-,z⟩|⟨z,-⟩
 ·exact z.right
 ·omega
theorem rI.tabN(h:rI X T own):Q5 T:=ag5 h.tabS h.tabR λi G=>by
 rcases h.form i with ⟨-,-,z⟩|⟨z,-⟩
 ·have :=N5 z;omega
 ·omega
theorem rI.get(h:rI X T own){i:Nat}(hi:i<32){n:bT}{o:List Nat}{r:Int}(hg:Vi X (i:Int) n o r):
  n=nT T i/\o=own i/\((r=0/\(nT T i).F≠0)\/(r=2/\(nT T i).F=0/\dS X (i:Int))\/(r=10/\(nT T i).F=0/\¬dS X (i:Int))):=by
 rcases hg with ⟨-,W,-⟩|⟨z,-,J,g3,g4⟩|⟨z,-,J,g3,g4,g5⟩|⟨z,W⟩
 ·omega
 ·rcases h.form i with ⟨-,-,e⟩|⟨V,U,G⟩
  ·exact absurd J e.notFree
  ·exact⟨by rw[g3,U],by rw[g4,(G hi).1],.inr (.inl ⟨z,V,J⟩)⟩
 ·rcases h.form i with ⟨-,-,e⟩|⟨V,U,G⟩
  ·exact absurd e (g3 _ _)
  ·exact⟨by rw[g4,U],by rw[g5,(G hi).1],.inr (.inr ⟨z,V,J⟩)⟩
 ·rcases h.form i with ⟨e0,-,e⟩|⟨V,U,G⟩
  ·obtain⟨rfl,rfl⟩:=e.uniq W
   exact⟨rfl,rfl,.inl ⟨z,e0⟩⟩
  ·exact absurd W ((G hi).2 _ _)
theorem rI.succ(h:rI X T own){x:Int}{n:bT}{o:List Nat}{r:Int}(J:Vi X x n o r):n.E.map (·.2)=o7 T x:=by
 unfold o7;by_cases z:0<=x/\x<32
 ·obtain⟨j,rfl⟩:=cA z.1
  rw[aB z,(h.get (i:=j) (by omega) J).1];rfl
 ·rw[aA z]
  rcases J with ⟨-,-,U,-⟩|⟨-,G,-⟩|⟨-,G,-⟩|⟨-,G⟩
  ·rw[U];rfl
  ·exact absurd G z
  ·exact absurd G z
  ·exact absurd G.rng z
theorem rI.elen(h:rI X T own)(i:Nat):(nT T i).E.length<=24:=by
 rcases h.form i with ⟨-,-,z⟩|⟨-,z,-⟩
 ·exact(jM z.right).1
 ·rw[z];exact fD _
def zI (E:List (ByteArray×Int)) (j i:Nat):Nat:=(E.take j).countP λe=>e.2==(i:Int)
theorem S7 (E:List (ByteArray×Int))(j i:Nat):zI E j i<=j:=
 cG List.countP_le_length (by rw[aJ];omega)
theorem Vu (E:List (ByteArray×Int))(i:Nat):zI E 0 i=0:=by simp[zI]
theorem Vv{E:List (ByteArray×Int)}(z:j<E.length)(i:Nat):zI E (j+1) i=zI E j i+if jm E j=(i:Int) then 1 else 0:=by
 unfold zI;rw[bP z,List.countP_append,List.countP_singleton];have :jm E j=E[j].2:=by simp[jm,z]
 rw[this];by_cases h:E[j].2=(i:Int)<;>simp[h]
def Kc (T:List (bT×Value)):Nat->Nat->Nat
 |0,_=>0
 |k+1,i=>Kc T k i+zI (nT T k).E (nT T k).E.length i
def lX (T:List (bT×Value)) (i:Nat):Nat:=Kc T 32 i
def kO (T:List (bT×Value)):Nat->List (Nat×bT)
 |0=>[]
 |k+1=>kO T k++if (nT T k).F=0 then [] else [(k,nT T k)]
def xy:List (Nat×bT)->Nat->Nat
 | [],_=>0
 |p::l,i=>zI p.2.E p.2.E.length i+xy l i
theorem En (l m:List (Nat×bT))(i:Nat):xy (l++m) i=xy l i+xy m i:=by
 induction l with
 |nil=>simp[xy]
 |cons p l ih=>simp[xy,ih];omega
theorem Y4 (z:aey T)(k i:Nat):xy (kO T k) i=Kc T k i:=by
 induction k with
 |zero=>rfl
 |succ k ih=>
  unfold kO Kc;rw[En,ih];by_cases h:(nT T k).F=0
  ·rw[aB h,z k h];rfl
  ·rw[aA h];simp[xy]
theorem o8{p:Nat×bT}:p∈kO T k↔p.1<k/\p.2=nT T p.1/\p.2.F≠0:=by
 induction k with
 |zero=>simp[kO]
 |succ k ih=>
  unfold kO;rw[aT,ih];constructor
  ·rintro (⟨J,z,G⟩|h)
   ·exact⟨by omega,z,G⟩
   ·split at h
    ·simp at h
    ·next hF=>
     rw[au] at h;subst h;exact⟨by show k<_;omega,rfl,hF⟩
  ·rintro⟨J,z,G⟩
   by_cases e:p.1=k
   ·right
    rw[aA (by rw[<-e,<-z];exact G),au];obtain⟨a,c⟩:=p;cases e;exact cP (Prod.mk a) z
   ·exact .inl ⟨by omega,z,G⟩
def lu (X:List Int):Prop:=
 X.getD 0 0=7596835243318849792/\(X.getD 1 0=1\/X.getD 1 0=2)/\X.getD 2 0<=32/\(∀i:Nat,3<=i->i<8->X.getD i 0=0)/\∀i:Nat,820<=i->i<824->X.getD i 0=0
def wN (X:List Int) (T:List (bT×Value)):Prop:=∀i:Nat,i<32->dS X (i:Int)\/(nT T i).F≠0
def N6 (X:List Int) (T:List (bT×Value)):Prop:=(nT T 0).K=2/\∀i:Nat,i<32->0<lX T i->¬dS X (i:Int)
def tB (i:Nat) (n:bT) (c:Nat):Prop:=(n.K=1->(c:Int)=n.L/\1<=c)/\(n.K=2->n.L=1/\(i=0->c=0)/\(i≠0->c=1))
def yr (T:List (bT×Value)):Prop:=∀i:Nat,i<32->tB i (nT T i) (lX T i)
def He (X:List Int) (T:List (bT×Value)):Prop:=∀i:Nat,i<32->¬dS X (i:Int)->Reach T 0 (i:Int)
def km (T:List (bT×Value)) (own:Nat->List Nat):Nat->Nat->Nat
 |0,_=>0
 |k+1,b=>km T own k b+(own k++dn (nT T k)).count b
def xz (T:List (bT×Value)) (own:Nat->List Nat) (b:Nat):Nat:=km T own 32 b
def S8 (X:List Int) (T:List (bT×Value)) (own:Nat->List Nat):Prop:=∀b:Nat,b<256->xz T own b<=1/\(dG X b=true↔xz T own b=1)
def jX (X:List Int) (n:bT):Prop:=n.K=1->∀k:Nat,k<13->n.B.getD k 0≠0->∀j:Nat,j<64->n.S<=64*(k:Int)+j->rJ (X.getD (1080+8*(n.B.getD k 0).toNat+j/8) 0).toNat (j%8)=0
def yt (X:List Int) (T:List (bT×Value)):Prop:=∀i:Nat,i<32->jX X (nT T i)
def tC (X:List Int) (T:List (bT×Value)) (own:Nat->List Nat):Nat->Prop
 |0=>lu X
 |1=>wN X T
 |2=>N6 X T
 |3=>yr T
 |4=>He X T
 |5=>S8 X T own
 |6=>yt X T
 |_=>True
def LJ (P:Nat->Prop) (k:Nat):Prop:=(k=0/\∀j,j<7->P j)\/(0<k/\k<=7/\¬P (k-1)/\∀j,j<k-1->P j)
theorem LJ.uniq{P:Nat->Prop}(h:LJ P k)(U:LJ P G):k=G:=by
 rcases h with ⟨rfl,J⟩|⟨h0,h1,J,h3⟩
 ·rcases U with ⟨rfl,-⟩|⟨W,V,z,-⟩
  ·rfl
  ·exact absurd (J _ (by omega)) z
 ·rcases U with ⟨rfl,z⟩|⟨W,V,z,g3⟩
  ·exact absurd (z _ (by omega)) J
  ·rcases Nat.lt_trichotomy k G with e|e|e
   ·exact absurd (g3 (k-1) (by omega)) J
   ·exact e
   ·exact absurd (h3 (G-1) (by omega)) z
theorem Vw{n:bT}(hB:n.B.length=13)(hR:ct n)(hK:n.K=1):jX X n↔(n.S%64≠0->n.B.getD (n.S/64).toNat 0≠0->∀j:Nat,n.S%64<=(j:Int)->j<64->rJ (X.getD (1080+8*(n.B.getD (n.S/64).toNat 0).toNat+j/8) 0).toNat (j%8)=0):=by
 have hS:0<=n.S/\n.S<=832:=by
  rcases hR.2.2 with h|h
  ·exact h.2.1
  ·omega
 have W:=Vn hB hR;constructor
 ·intro h h0 J j V G
  refine h hK (n.S/64).toNat (by omega) J j G ?_;omega
 ·intro h _ k U J j V aa
  have h1:=(W k U).2 (by have :=(W k U).1;omega);have h2:=h1.2.1;have z:k=(n.S/64).toNat:=by omega
  subst z;exact h (by omega) J j (by omega) V
theorem Vx{n:bT}(v:Value)(hB:n.B.length=13)(hK:n.K=1\/n.K=2)(i c:Nat)(w:World):
  Calls prog 139 #[(i:Int),aM n v,(c:Int)] w (dv w (tB i n c)):=by
 have hb:=bh.new w (aM n v) 75;have hk:=(ay.refl [] w).alloc (.cells (aM n v) 75);have z:Hid (∀r:Bool,(r=true↔((n.K=1->(c:Int)=n.L/\1<=c)/\(n.K=2->n.L=1/\(i=0->c=0)/\(i≠0->c=1))))->dv w (tB i n c) (.returned (.bool r)) (w.alloc (.cells (aM n v) 75))):=λr h=>⟨r,rfl,h,hk⟩
 have c1:(w.alloc (.cells (aM n v) 75)).cell? ⟨w.heap.size,1,none⟩=some (.int .i64 n.K):=by rw[hb.cell];exact(gG v hB).f1
 have c2:(w.alloc (.cells (aM n v) 75)).cell? ⟨w.heap.size,2,none⟩=some (.int .i64 n.L):=by rw[hb.cell];exact(gG v hB).f2
 clear hb hk;generalize aM n v=Z,tB i n c=pP,n.K=K,n.L=L at *;obtain⟨U,PB⟩:∃U:Int,(c:Int)=U:=⟨_,rfl⟩;obtain⟨ii,W⟩:∃ii:Int,(i:Int)=ii:=⟨_,rfl⟩;obtain⟨Me,Yj⟩:=hh2 PB W;rw[PB,W];rw[PB] at z;clear PB W;rcases hK with rfl|rfl
 ·by_cases G:U=L
  ·have b1:(U==L)=true:=by simpa using G
   by_cases V:1<=U
   ·have J:=ar (z.out true ⟨λ_=>⟨λ_=>⟨G,by have :=Me.out;omega⟩,λh=>by omega⟩,λ_=>rfl⟩)
    clear z G;go_in;go_wp2_with fail;go_ret;exact J.out
   ·have J:=ar (z.out false ⟨(λh=>by cases h),λh=>by have :=Me.out;have :=(h.1 rfl).2;omega⟩)
    clear z G;go_in;go_wp2_with fail;go_ret;exact J.out
  ·have b1:(U==L)=false:=by simpa using G
   have J:=ar (z.out false ⟨(λh=>by cases h),λh=>absurd (h.1 rfl).1 G⟩);clear z G;go_in;go_wp2_with fail;go_ret;exact J.out
 ·by_cases e0:ii=0
  ·subst e0
   by_cases G:L=1
   ·subst G
    by_cases V:U=0
    ·subst V
     have J:=ar (z.out true ⟨λ_=>⟨λh=>by omega,λ_=>⟨rfl,λ_=>by have :=Me.out;omega,λh=>by have :=Yj.out;omega⟩⟩,λ_=>rfl⟩);clear z;go_in;go_wp2_with fail;go_ret;exact J.out
    ·have b2:(U==0)=false:=by simpa using V
     have J:=ar (z.out false ⟨(λh=>by cases h),λh=>by have :=(h.2 rfl).2.1 (by have :=Yj.out;omega);have :=Me.out;omega⟩);clear z V;go_in;go_wp2_with fail;go_ret;exact J.out
   ·have b1:(L==1)=false:=by simpa using G
    have J:=ar (z.out false ⟨(λh=>by cases h),λh=>absurd (h.2 rfl).1 G⟩);clear z G;go_in;go_wp2_with fail;go_ret;exact J.out
  ·have b0:(ii==0)=false:=by simpa using e0
   by_cases G:L=1
   ·subst G
    by_cases V:U=1
    ·subst V
     have J:=ar (z.out true ⟨λ_=>⟨λh=>by omega,λ_=>⟨rfl,λh=>by have :=Yj.out;omega,λ_=>by have :=Me.out;omega⟩⟩,λ_=>rfl⟩);clear z e0;go_in;go_wp2_with fail;go_ret;exact J.out
    ·have b2:(U==1)=false:=by simpa using V
     have J:=ar (z.out false ⟨(λh=>by cases h),λh=>by have :=(h.2 rfl).2.2 (by have :=Yj.out;omega);have :=Me.out;omega⟩);clear z V e0;go_in;go_wp2_with fail;go_ret;exact J.out
   ·have b1:(L==1)=false:=by simpa using G
    have J:=ar (z.out false ⟨(λh=>by cases h),λh=>absurd (h.2 rfl).1 G⟩);clear z G e0;go_in;go_wp2_with fail;go_ret;exact J.out
def EU (i:Int) (x:Int):Prop:=(i=0->x=7596835243318849792)/\(i=1->x=1\/x=2)/\(i=2->x<=32)/\(2<i->x=0)
def Ke (w:World) (p:Prop) (e:Ending) (w':World):Prop:=(∃r:Bool,e=r/\(r=true↔p))/\w=w'
theorem I3 (i x:Int)(hi:0<=i)(w:World):
  Calls prog 136 #[i,.int .u64 x] w (Ke w (EU i x)):=by
 have z:Hid (∀r:Bool,(r=true↔((i=0->x=7596835243318849792)/\(i=1->x=1\/x=2)/\(i=2->x<=32)/\(2<i->x=0)))->Ke w (EU i x) (.returned (.bool r)) w):=λr h=>⟨⟨r,rfl,h⟩,rfl⟩
 generalize EU i x=pP at *;by_cases W:i=0
 ·subst W
  by_cases J:x=7596835243318849792
  ·have G:=ar (z.out true ⟨λ_=>⟨λ_=>J,by omega,by omega,by omega⟩,λ_=>rfl⟩)
   have b1:(x==7596835243318849792)=true:=by simpa using J
   clear z J;go_in;go_wp2_with fail;go_ret;exact G.out
  ·have G:=ar (z.out false ⟨(λh=>by cases h),λh=>absurd (h.1 rfl) J⟩)
   have b1:(x==7596835243318849792)=false:=by simpa using J
   clear z J;go_in;go_wp2_with fail;go_ret;exact G.out
 ·have b0:(i==0)=false:=by simpa using W
  by_cases J:i=1
  ·subst J
   by_cases V:x=1
   ·subst V
    have G:=ar (z.out true ⟨λ_=>⟨by omega,λ_=> .inl rfl,by omega,by omega⟩,λ_=>rfl⟩);clear z W;go_in;go_wp2_with fail;go_ret;exact G.out
   ·have b2:(x==1)=false:=by simpa using V
    by_cases U:x=2
    ·subst U
     have G:=ar (z.out true ⟨λ_=>⟨by omega,λ_=> .inr rfl,by omega,by omega⟩,λ_=>rfl⟩);clear z W V;go_in;go_wp2_with fail;go_ret;exact G.out
    ·have b3:(x==2)=false:=by simpa using U
     have G:=ar (z.out false ⟨(λh=>by cases h),λh=>by have :=h.2.1 rfl;omega⟩);clear z W V U;go_in;go_wp2_with fail;go_ret;exact G.out
  ·have b1:(i==1)=false:=by simpa using J
   by_cases V:i=2
   ·subst V
    by_cases U:x<=32
    ·have G:=ar (z.out true ⟨λ_=>⟨by omega,by omega,λ_=>U,by omega⟩,λ_=>rfl⟩)
     clear z W J;go_in;go_wp2_with fail;go_ret;simpa[U] using G.out
    ·have G:=ar (z.out false ⟨(λh=>by cases h),λh=>absurd (h.2.2.1 rfl) U⟩)
     clear z W J;go_in;go_wp2_with fail;go_ret;simpa[U] using G.out
   ·have b2:(i==2)=false:=by simpa using V
    by_cases U:x=0
    ·subst U
     have G:=ar (z.out true ⟨λ_=>⟨by omega,by omega,by omega,λ_=>rfl⟩,λ_=>rfl⟩);clear z W J V;go_in;go_wp2_with fail;go_ret;exact G.out
    ·have b3:(x==0)=false:=by simpa using U
     have G:=ar (z.out false ⟨(λh=>by cases h),λh=>absurd (h.2.2.2 (by omega)) U⟩);clear z W J V U;go_in;go_wp2_with fail;go_ret;exact G.out
structure gU (w:World) (b gp:Nat) (B:List Int) (ps:List (Int×Int)) (T:List (bT×Value)) (own:Nat->List Nat):Prop where
 sh:eK w b gp B ps
 w64:In64 (az B ps)
 gots:rI (az B ps) T own
 lt:b<w.heap.size/\gp<w.heap.size
theorem gU.keep(h:gU w b G B ps T own){l:List Nat}(J:ay l w w')(U:∀k∈l,w.heap.size<=k\/(k≠b/\k≠G)):gU w' b G B ps T own:=
 ⟨h.sh.keep J (λz=>by have :=U _ z;have :=h.lt;omega) (λz=>by have :=U _ z;have :=h.lt;omega),h.w64,h.gots,by have :=h.lt;have :=J.size;omega⟩
theorem gU.keep0{z:Nat}(h:gU w b z B ps T own)(G:ay [] w w'):gU w' b z B ps T own:=h.keep G (by simp)
def za (w:World) (X:List Int) (T:List (bT×Value)) (own:Nat->List Nat) (i:Nat) (e:Ending) (w':World):Prop:=
 ∃v g h z r,e= .returned (.tuple #[aM (nT T i) v,h,(r:Int)])/\(nT T i).B.length=13/\bD w' v g (nT T i).E/\w.heap.size<=g/\ma w' h z (own i)/\w.heap.size<=z/\ay [] w w'/\
  ((r=0/\(nT T i).F≠0)\/(r=2/\(nT T i).F=0/\dS X (i:Int))\/(r=10/\(nT T i).F=0/\¬dS X (i:Int)))
theorem gU.get(h:gU w b gp B ps T own){i:Nat}(V:i<32):
  Calls prog 30 #[b,(i:Int)] w (za w (az B ps) T own i):=by
 refine(get_at h.sh h.w64 (i:Int)).mono ?_;rintro e w' ⟨n,v,g,o,G,ga,r,rfl,hB,hE,U,W,J,z,hr⟩;obtain⟨rfl,rfl,h3⟩:=h.gots.get V hr;exact⟨v,g,G,ga,r,rfl,hB,hE,U,W,J,z,h3⟩
theorem gU.below{V:Nat}(h:gU w b V B ps T own)(d i:Int):
  Calls prog 124 #[b,d,i] w (dv w (Reach T d i)):=
 Q9 (λx wx z=>by
  refine(get_at (h.keep0 z).sh h.w64 x).mono ?_;rintro e w' ⟨n,v,g,o,va,ga,r,rfl,U,W,G,J,xh,z,hr⟩;obtain⟨a,cap,rfl,-,-,-⟩:=J.reads;exact⟨n,v,g,a,_,cap,r,rfl,U,W,G,h.gots.succ hr,z⟩) h.gots.tabN d i
theorem N7{i:Nat}(h:i<3128):Bb B ps (i:Int)=(az B ps).getD i 0:=by
 unfold Bb;rw[aB,aG]
theorem Vy (X:List Int):lu X↔(∀i:Nat,i<8->EU (i:Int) (X.getD i 0))/\∀k:Nat,k<4->X.getD (820+k) 0=0:=by
 unfold lu EU;constructor
 ·rintro⟨V,z,J,G,W⟩
  refine⟨λi hi=>⟨λe=> ?_,λe=> ?_,λe=> ?_,λe=>G i (by omega) hi⟩,λk hk=>W _ (by omega) (by omega)⟩
  ·obtain rfl:i=0:=by omega
   exact V
  ·obtain rfl:i=1:=by omega
   exact z
  ·obtain rfl:i=2:=by omega
   exact J
 ·rintro⟨h,g⟩
  refine⟨(h 0 (by omega)).1 rfl,(h 1 (by omega)).2.1 rfl,(h 2 (by omega)).2.2.1 rfl,λi G U=>(h i U).2.2.2 (by omega),λi z J=> ?_⟩;have :=g (i-820) (by omega);rwa[show 820+(i-820)=i by omega] at this
theorem I4 (h:eK w b gp B ps):
  Calls prog 92 #[b] w (dv w (lu (az B ps))):=by
 have HG:Hid (∀i:Nat,i<3128->Calls prog 57 #[b,(i:Int)] w λe w'=>e= .returned (.int .u64 ((az B ps).getD i 0))/\w=w'):=λi hi=>by
  have :=py h (i:Int);rwa[N7 hi] at this
 have HP:Hid (∀r:Bool,(r=true↔(∀i:Nat,i<8->EU (i:Int) ((az B ps).getD i 0))/\∀k:Nat,k<4->(az B ps).getD (820+k) 0=0)->dv w (lu (az B ps)) (.returned (.bool r)) w):=λr hr=>⟨r,rfl,hr.trans (Vy _).symm,ay.refl _ _⟩
 clear h;generalize az B ps=X at *;generalize lu X=pS at *;go_in;go_wp2_with fail;go_loopg [3] 8 (λgh s3 wx=>w=wx/\∃k:Nat,k+gh=8/\s3= .int .i64 (k:Int)/\Hid (∀i:Nat,i<k->EU (i:Int) (X.getD i 0)))
 case atStart=>exact⟨rfl,0,by omega,rfl,λi hi=>by omega⟩
 case round=>
  obtain⟨rfl,k,hk,rfl,U⟩:=hrel;cases gk with
  |succ gg=>
   have xD:(k:Int)<8:=by omega
   have cM:(0:Int)<=(k:Int):=by omega
   obtain⟨z,ac⟩:=hh2 (HG.out k (by omega)) (I3 (k:Int) (X.getD k 0) cM);have G:Hid (EU (k:Int) (X.getD k 0)->∀i:Nat,i<k+1->EU (i:Int) (X.getD i 0)):=λV i hi=>by
    by_cases e:i=k
    ·rw[e];exact V
    ·exact U.out i (by omega)
   have J:Hid (¬EU (k:Int) (X.getD k 0)->¬((∀i:Nat,i<8->EU (i:Int) (X.getD i 0))/\∀k:Nat,k<4->X.getD (820+k) 0=0)):=λV hh=>V (hh.1 k (by omega))
   generalize X.getD k 0=x at *;clear U HG;go_wp2_with fail;refine C' z.out ?_;clear z;go_wp2_with fail;refine(ac.out _).mono ?_;rintro e w1 ⟨⟨r,rfl,hr⟩,rfl⟩;clear ac;cases r
   ·have HF:=ar (HP.out false ⟨(λh=>by cases h),λhh=>absurd hh (J.out λV=>by cases hr.2 V)⟩)
    clear G J HP hr;go_wp2_with fail;go_ret;exact HF.out
   ·have HN:=ar (G.out (hr.1 rfl))
    clear G J hr;go_wp2_with fail;go_roundg gg;case measure=>omega
    case rel=>exact⟨rfl,k+1,by omega,by go_num,HN.out⟩
  |zero=>
   obtain rfl:k=8:=by omega
   have H8:=ar U.out;clear U hk;go_wp2_with fail;go_loopg [4] 4 (λgh s4 wx=>w=wx/\∃k:Nat,k+gh=4/\s4= .int .i64 ((820+k:Nat):Int)/\Hid (∀i:Nat,i<k->X.getD (820+i) 0=0))
   case atStart=>exact⟨rfl,0,by omega,rfl,λi hi=>by omega⟩
   case round=>
    obtain⟨rfl,k,hk,rfl,U⟩:=hrel;have z:Hid (k<4->Calls prog 57 #[b,((820+k:Nat):Int)] w λe w'=>e= .returned (.int .u64 (X.getD (820+k) 0))/\w=w'):=λaf=>HG.out (820+k) (by omega)
    have G:Hid (X.getD (820+k) 0=0->∀i:Nat,i<k+1->X.getD (820+i) 0=0):=λV i hi=>by
     by_cases e:i=k
     ·rw[e];exact V
     ·exact U.out i (by omega)
    have J:Hid (k<4->X.getD (820+k) 0≠0->¬((∀i:Nat,i<8->EU (i:Int) (X.getD i 0))/\∀k:Nat,k<4->X.getD (820+k) 0=0)):=λh4 V hh=>V (hh.2 k h4)
    obtain⟨q,hq⟩:∃q,820+k=q:=⟨_,rfl⟩;rw[hq] at z G J;rw[hq];have HQ:=ar hq;generalize X.getD q 0=x at *;cases gk with
    |succ g2=>
     have ae:(q:Int)<824:=by omega
     have ag:(0:Int)<=(q:Int):=by omega
     have W:=ar (z.out (by omega));have aa:k<4:=by omega
     clear z U HG H8 hq;by_cases hx:x=0
     ·subst hx
      have HN:=ar (G.out rfl);clear G J aa;go_wp2_with fail;refine C' W.out ?_;clear W;go_wp2_with fail;go_roundg g2;case measure=>omega
      case rel=>exact⟨rfl,k+1,by omega,by have :=HQ.out;go_num,HN.out⟩
     ·have hb:(x != 0)=true:=bne_iff_ne.2 hx
      have HF:=ar (HP.out false ⟨(λh=>by cases h),λhh=>absurd hh (J.out aa hx)⟩);clear G J HP hx aa;go_wp2_with fail;refine C' W.out ?_;clear W;go_wp2_with fail;go_ret;exact HF.out
    |zero=>
     obtain rfl:k=4:=by omega
     have ae:¬(q:Int)<824:=by omega
     have HF:=ar (HP.out true ⟨λ_=>⟨H8.out,U.out⟩,λ_=>rfl⟩);clear G J HP z U H8 HG hq;go_wp2_with fail;go_ret;exact HF.out
theorem Vz (h:gU w b gp B ps T own):
  Calls prog 93 #[b] w (dv w (wN (az B ps) T)):=by
 have HG:Hid (∀U,ay [] w U->∀i:Nat,i<32->Calls prog 30 #[b,(i:Int)] U (za U (az B ps) T own i)):=λU hk i hi=>(h.keep0 hk).get hi
 have HP:Hid (∀(r:Bool) w',(r=true↔∀i:Nat,i<32->dS (az B ps) (i:Int)\/(nT T i).F≠0)->ay [] w w'->dv w (wN (az B ps) T) (.returned (.bool r)) w'):=λr w' hr hk=>⟨r,rfl,hr,hk⟩
 have rH:=dA;obtain⟨Z0,Dd⟩:∃Z0,aM ck (.slice none 0 0)=Z0:=⟨_,rfl⟩;have Lb:Hid (Z0.size=18):=by show _=_;rw[<-Dd];rfl
 rw[Dd] at rH;clear h Dd;generalize wN (az B ps) T=pP at *;generalize az B ps=X at *;go_in;go_wp2_with fail;go_loopg [7] 32 (λgh s7 U=>∃k:Nat,k+gh=32/\s7= .int .i64 (k:Int)/\Hid (ay [] w U/\∀i:Nat,i<k->dS X (i:Int)\/(nT T i).F≠0))
 case atStart=>exact⟨0,by omega,rfl,ay.refl _ _,λi hi=>by omega⟩
 case round=>
  obtain⟨k,hk,rfl,G⟩:=hrel;cases gk with
  |zero=>
   obtain rfl:k=32:=by omega
   have HF:=ar (HP.out true _ ⟨λ_=>G.out.2,λ_=>rfl⟩ G.out.1);clear G HP HG;go_wp2_with fail;go_ret;exact HF.out
  |succ gg=>
   have xD:(k:Int)<32:=by omega
   have vB:k<32:=by omega
   have aa:=ar (HG.out _ G.out.1 k vB);clear HG;go_wp2_with fail;refine aa.out.mono ?_;rintro e w3 ⟨v,g,va,ga,r,rfl,hB,hE,hg,hO,xh,V,hr⟩;obtain⟨w4,p1,p2,p3⟩:=cz (n:=nT T k) (v:=v) (bh.new w3 Z0 75) Lb.out hB hE.one;have tT:=ar p1;have qb:Hid (ay [] w w4):=(G.out.1.trans' V).trans' (((ay.refl [] w3).alloc _).trans p3 (by intro x hx;rw[au] at hx;omega));obtain⟨J,z⟩:=hh2 hr G.out.2;clear hB hE hg hO xh V hr p1 p2 p3 G aa;generalize aM (nT T k) v=ZN at *;by_cases W:r=0
   ·subst W
    have HN:Hid (∀i:Nat,i<k+1->dS X (i:Int)\/(nT T i).F≠0):=λi hi=>by
     by_cases e:i=k
     ·rw[e]
      rcases J.out with ⟨-,h⟩|⟨h,-⟩|⟨h,-⟩
      ·exact .inr h
      ·omega
      ·omega
     ·exact z.out i (by omega)
    clear J z;go_wp2_with(with_reducible refine gS 75 tT.out ?_);go_roundg gg;case measure=>omega
    case rel=>exact⟨k+1,by omega,by go_num,qb.out,HN.out⟩
   ·have b0:(r != 0)=true:=bne_iff_ne.2 W
    by_cases h2:r=2
    ·subst h2
     have HN:Hid (∀i:Nat,i<k+1->dS X (i:Int)\/(nT T i).F≠0):=λi hi=>by
      by_cases e:i=k
      ·rw[e]
       rcases J.out with ⟨h,-⟩|⟨-,-,h⟩|⟨h,-⟩
       ·omega
       ·exact .inl h
       ·omega
      ·exact z.out i (by omega)
     clear J z W;go_wp2_with(with_reducible refine gS 75 tT.out ?_);go_roundg gg;case measure=>omega
     case rel=>exact⟨k+1,by omega,by go_num,qb.out,HN.out⟩
    ·have b2:(r != 2)=true:=bne_iff_ne.2 h2
     have HF:Hid (dv w pP (.returned false) w4):=HP.out false _ ⟨(λh=>by cases h),λhh=>by
      rcases J.out with ⟨h,-⟩|⟨h,-⟩|⟨-,h3,h4⟩
      ·exact absurd h W
      ·exact absurd h h2
      ·rcases hh k vB with h|h
       ·exact absurd h h4
       ·exact absurd h3 h⟩ qb.out
     clear J z W h2 HP;go_wp2_with(with_reducible refine gS 75 tT.out ?_);go_ret;exact HF.out
theorem I5 (h:gU w b gp B ps T own):
  Calls prog 96 #[b] w (dv w (He (az B ps) T)):=by
 have zX:Hid (∀J,ay [] w J->∀i:Nat,i<32->Calls prog 59 #[b,(i:Int)] J λe w'=>e=(decide (dS (az B ps) (i:Int)))/\ay [] J w'):=λJ hk i hi=>by
  have :=Fl (h.keep0 hk).sh (i:Int);rwa[show decide ((0<=(i:Int)/\(i:Int)<32)/\dS (az B ps) (i:Int))=decide (dS (az B ps) (i:Int)) by rw[decide_eq_decide];exact⟨λh=>h.2,λh=>⟨⟨by omega,by omega⟩,h⟩⟩] at this
 have U:Hid (∀J,ay [] w J->∀i:Nat,Calls prog 124 #[b,(0:Int),(i:Int)] J (dv J (Reach T 0 (i:Int)))):=λJ hk i=>(h.keep0 hk).below 0 (i:Int)
 have HP:Hid (∀(r:Bool) w',(r=true↔∀i:Nat,i<32->¬dS (az B ps) (i:Int)->Reach T 0 (i:Int))->ay [] w w'->dv w (He (az B ps) T) (.returned (.bool r)) w'):=λr w' hr hk=>⟨r,rfl,hr,hk⟩
 clear h;generalize He (az B ps) T=pP at *;generalize az B ps=X at *;go_in;go_wp2_with fail;go_loopg [4] 32 (λgh s4 J=>∃k:Nat,k+gh=32/\s4= .int .i64 (k:Int)/\Hid (ay [] w J/\∀i:Nat,i<k->¬dS X (i:Int)->Reach T 0 (i:Int)))
 case atStart=>exact⟨0,by omega,rfl,ay.refl _ _,λi hi=>by omega⟩
 case round=>
  obtain⟨k,hk,rfl,W⟩:=hrel;cases gk with
  |zero=>
   obtain rfl:k=32:=by omega
   have HF:=ar (HP.out true _ ⟨λ_=>W.out.2,λ_=>rfl⟩ W.out.1);clear W HP zX U;go_wp2_with fail;go_ret;exact HF.out
  |succ gg=>
   have xD:(k:Int)<32:=by omega
   have vB:k<32:=by omega
   obtain⟨S9,z,CZ⟩:=hh3 (zX.out _ W.out.1 k vB) W.out.2 W.out.1;clear W zX;by_cases hf:dS X (k:Int)
   ·rw[bu hf] at S9
    have HN:Hid (∀i:Nat,i<k+1->¬dS X (i:Int)->Reach T 0 (i:Int)):=λi hi hn=>by
     by_cases e:i=k
     ·rw[e] at hn;exact absurd hf hn
     ·exact z.out i (by omega) hn
    clear hf z U;go_wp2_with fail;refine Rr S9.out λw1 G=> ?_;have jH:=ar (CZ.out.trans' G);clear G S9 CZ;go_wp2_with fail;go_roundg gg;case measure=>omega
    case rel=>exact⟨k+1,by omega,by go_num,jH.out,HN.out⟩
   ·rw[aQ hf] at S9
    have V:=ar hf;clear hf;go_wp2_with fail;refine Rr S9.out λw1 G=> ?_;have jH:=ar (CZ.out.trans' G);have zO:=ar (U.out _ jH.out k);clear G S9 CZ U;go_wp2_with fail;refine zO.out.mono ?_;rintro e w2 ⟨r,rfl,hr,aa⟩;obtain⟨fo,HR⟩:=hh2 (jH.out.trans' aa) hr;clear aa hr jH zO;cases r
    ·have HF:=ar (HP.out false _ ⟨(λh=>by cases h),λhh=>HR.out.2 (hh k vB V.out)⟩ fo.out)
     clear HP HR z V;go_wp2_with fail;go_ret;exact HF.out
    ·have HN:Hid (∀i:Nat,i<k+1->¬dS X (i:Int)->Reach T 0 (i:Int)):=λi hi hn=>by
      by_cases e:i=k
      ·rw[e];exact HR.out.1 rfl
      ·exact z.out i (by omega) hn
     clear HP HR z V;go_wp2_with fail;go_roundg gg;case measure=>omega
     case rel=>exact⟨k+1,by omega,by go_num,fo.out,HN.out⟩
def dR (n:Nat) (f:Nat->Nat):List Nat:=(List.range n).map f
theorem qB (n:Nat)(f:Nat->Nat):(dR n f).length=n:=by simp[dR]
theorem Rb (h:j<n):(dR n f).getD j 0=f j:=by
 unfold dR;rw[aj,bJ,cC h];rfl
theorem yu (h:j<n):(dL (dR n f)).toArray[j]? =some (.int .i64 (f j:Int)):=by
 rw[aF,nA (by rw[qB];exact h),Rb h]
theorem tD (h:∀j,j<n->f j=f' j):dR n f=dR n f':=by
 unfold dR;exact dP λj z=>h j (b7.1 z)
theorem Rc (f:Nat->Nat){y:Nat}(x:Nat):(dR n f).set y x=dR n λq=>if q=y then x else f q:=by
 unfold dR;apply cV (by simp);intro j G z;have J:j<n:=by simpa using z
 rw[List.getElem_set];simp only[ic,jV];by_cases e:y=j
 ·subst e;simp
 ·rw[aA e,aA (λh=>e h.symm)]
theorem LK{T:Nat}(h:bh w g (dL (dR n f)).toArray T){j:Nat}(z:j<n):w.cell? ⟨g,j,none⟩=some (.int .i64 (f j:Int)):=by
 rw[h.cell,yu z]
theorem N8{T:Nat}(h:bh w g (dL (dR n f)).toArray T)(y:Nat)(J:∀q,q<n->f' q=if q=y then f y+1 else f q){x:Int}(z:x=((f y+1:Nat):Int)):bh (w.setCell ⟨g,y,none⟩ (.int .i64 x)) g (dL (dR n f')).toArray T:=by
 subst z;have :=h.set y (.int .i64 ((f y+1:Nat):Int));rw[ag] at this;have G:(dL (dR n f)).set y (.int .i64 ((f y+1:Nat):Int))=dL ((dR n f).set y (f y+1)):=by simp[dL,List.map_set]
 rw[G,Rc,<-tD J] at this;exact this
theorem N9 (w:World):(zeroValue 189).run prog w= .ok (.agg (dL (dR 32 λ_=>0)).toArray) w:=by kernel_rfl
theorem VA (w:World):(zeroValue 195).run prog w= .ok (.agg (dL (dR 256 λ_=>0)).toArray) w:=by kernel_rfl
theorem Oa:(prog.info? 189).map (·.size)=some 32:=by kernel_rfl
theorem VB:(prog.info? 195).map (·.size)=some 256:=by kernel_rfl
theorem Y5 (l:List Nat):∀u∈dL l,u.oneCell'=true:=by
 intro u h;unfold dL at h;obtain⟨x,-,rfl⟩:=bH.1 h;rfl
theorem Ob{T:Nat}(h:bh w g (dL (dR 32 f)).toArray T):(loadVar 189 g).run prog w= .ok (.agg (dL (dR 32 f)).toArray) w:=
 bZ g 0 (dL (dR 32 f)) underlying189 rfl (by rw[fp,qB];exact Oa) λj z=>by
  rw[h.cell,bc,aF]
theorem VC{T:Nat}(h:bh w g (dL (dR 256 f)).toArray T):(loadVar 195 g).run prog w= .ok (.agg (dL (dR 256 f)).toArray) w:=
 bZ g 0 (dL (dR 256 f)) underlying195 rfl (by rw[fp,qB];exact VB) λj z=>by
  rw[h.cell,bc,aF]
theorem Kf{T:Nat}(h:bh w g (dL (dR 32 f)).toArray T):
  ∃w',(storeVar 189 g (.agg (dL (dR 32 f')).toArray)).run prog w= .ok () w'/\bh w' g (dL (dR 32 f')).toArray T/\ay [g] w w':=
 bG (P:= prog) (ty:= 189) (cs:=dL (dR 32 f')) (by rw[fp,qB];exact Oa) h (by rw[bN,fp,fp,qB,qB]) (Y5 _)
def AK (T:List (bT×Value)) (own:Nat->List Nat) (i:Nat):List Nat:=own i++dn (nT T i)
theorem qC{n:bT}(U:n.B.length=13)(V:ct n):∀c∈dn n,c≠0/\c<256:=λc z=>by
 unfold dn ez at z;obtain⟨x,h,rfl⟩:=bH.1 z;rw[List.mem_filter] at h;obtain⟨k,G,e⟩:=bW (bO h.1);have J:=vg V U k;rw[aj,aD G,fc,e] at J;have W:x≠0:=by simpa using h.2
 omega
theorem rI.all(h:rI X T own)(i:Nat)(J:i<32):(∀c∈AK T own i,c≠0/\c<256)/\(AK T own i).length<=45:=by
 unfold AK;rcases h.form i with ⟨-,-,z⟩|⟨-,z,U⟩
 ·refine⟨λc G=> ?_,?_⟩
  ·rcases aT.1 G with G|G
   ·exact z.mem c G
   ·exact qC z.len z.right c G
  ·rw[aC]
   have W:=z.ownLen;have V:=vA z.right;have h5:(dn (nT T i)).length<=13:=AE _ _;omega
 ·rw[(U J).1,z]
  have :dn ck=[]:=by decide
  rw[this];exact⟨λc G=>by simp at G,by simp⟩
theorem gU.all(h:gU w b gp B ps T own){i:Nat}(J:i<32):
  Calls prog 140 #[b,(i:Int)] w λe w'=>∃v g,e=(v:Value)/\Reads w' v g (dL (AK T own i))/\ay [] w w'/\(AK T own i≠[]->w.heap.size<=g):=by
 refine(ab0 h.sh h.w64 (i:Int)).mono ?_;rintro e w' ⟨v,g,l,rfl,hr,W,U,hg⟩;have e:l=AK T own i:=by
  unfold AK;rcases h.gots.form i with ⟨-,-,G⟩|⟨-,G,V⟩
  ·rcases U with ⟨n,o,z,rfl⟩|⟨z,-⟩
   ·obtain⟨e1,e2⟩:=G.uniq z
    rw[e1,e2]
   ·exact absurd G (z _ _)
  ·rcases U with ⟨n,o,z,-⟩|⟨-,rfl⟩
   ·exact absurd z ((V J).2 _ _)
   ·rw[(V J).1,G]
    rfl
 subst e;exact⟨v,g,rfl,hr,W,hg⟩
theorem Oc {T:List (bT×Value)}{own:Nat->List Nat}(h:∀i,i<32->(AK T own i).length<=45):∀k b,k<=32->km T own k b<=45*k
 |0,_,_=>fD _
 |k+1,b,hk=>by
  have G:=Oc h k b (by omega);have z:=h k (by omega);have J:(own k++dn (nT T k)).count b<=_:=List.count_le_length;unfold AK at z;show km T own k b+_<=_;omega
theorem EW {l:List Nat}{j:Nat}(z:j<l.length)(b:Nat):(l.take (j+1)).count b=if b=l.getD j 0 then (l.take j).count b+1 else (l.take j).count b:=by
 rw[bP z,fM,List.count_singleton];have :l.getD j 0=l[j]:=by rw[aj,aD z];rfl
 rw[this];by_cases e:b=l[j]
 ·subst e;simp
 ·rw[aA e]
  simp;exact λh=>e h.symm
theorem I6 (h:gU w b gp B ps T own):
  Calls prog 97 #[(b:Nat)] w (dv w (S8 (az B ps) T own)):=by
 have ug:Hid (∀U,ay [] w U->∀i:Nat,i<32->Calls prog 140 #[(b:Nat),(i:Int)] U λe w'=>∃v g,e=(v:Value)/\Reads w' v g (dL (AK T own i))/\ay [] U w'/\(AK T own i≠[]->U.heap.size<=g)):=λU hk i hi=>(h.keep0 hk).all hi
 have aa:Hid (∀U,ay [] w U->∀c:Nat,c<256->Calls prog 141 #[(b:Nat),(c:Int)] U λe w'=>e=(dG (az B ps) c:Bool)/\U=w'):=λU hk c hc=>by
  have :=Vt (h.keep0 hk).sh h.w64 (c:Int);rwa[Y3,aB (xS.2 ⟨by omega,by omega⟩),aG] at this
 have ah:Hid (∀i,i<32->(∀c∈AK T own i,c≠0/\c<256)/\(AK T own i).length<=45):=λi hi=>h.gots.all i hi
 have av:Hid (∀k c,k<=32->km T own k c<=45*k):=Oc λi hi=>(h.gots.all i hi).2
 have aM:Hid (∀k c,km T own (k+1) c=km T own k c+(AK T own k).count c):=λk c=>rfl
 have HP:Hid (∀(r:Bool) w',(r=true↔∀b:Nat,b<256->km T own 32 b<=1/\(dG (az B ps) b=true↔km T own 32 b=1))->ay [] w w'->dv w (S8 (az B ps) T own) (.returned (.bool r)) w'):=λr w' hr hk=>⟨r,rfl,hr,hk⟩
 have aY:=VA;have p9:Hid (bh (w.alloc (.cells (dL (dR 256 λ_=>0)).toArray 195)) w.heap.size (dL (dR 256 λc=>km T own 0 c)).toArray 195):=bh.new w _ _;have fJ:Hid (ay [] w (w.alloc (.cells (dL (dR 256 λ_=>0)).toArray 195))):=(ay.refl [] w).alloc _;clear h;generalize S8 (az B ps) T own=pP at *;generalize az B ps=X,km T own=G,AK T own=W,(dL (dR 256 λ_=>0)).toArray=Z0 at *;go_in;go_wp2_with fail;go_loopg [9] 32 (λgh s9 U=>∃k:Nat,k+gh=32/\s9= .int .i64 (k:Int)/\Hid (ay [] w U/\bh U w.heap.size (dL (dR 256 λc=>G k c)).toArray 195))
 case atStart=>exact⟨0,by omega,rfl,fJ.out,p9.out⟩
 case round=>
  clear p9 fJ;obtain⟨k,hk,rfl,J⟩:=hrel;cases gk with
  |succ gg=>
   have xD:(k:Int)<32:=by omega
   have vB:k<32:=by omega
   have aK:=ar (ug.out _ J.out.1 k vB);obtain⟨aL,aV⟩:=ah.out k vB;obtain⟨aH,Mi⟩:=hh2 aL (λc=>av.out k c (by omega));have aW:=J.out.2.lt;clear aL ug ah aa HP;go_wp2_with fail;refine aK.out.mono ?_;rintro e w3 ⟨v,g,rfl,hr,ai,hg⟩;obtain⟨a,cap,rfl,ag,aX,ax⟩:=hr;rw[fp] at ag ax ⊢;have aP:Hid (W k≠[]->g≠w.heap.size):=λh0=>by have :=hg h0;omega
   have Mm:Hid (∀j,j<(W k).length->∃off,a=some ⟨g,off,none⟩/\g<w3.heap.size/\w3.cell? ⟨g,off+j,none⟩=some (.int .i64 (((W k).getD j 0:Nat):Int))/\g≠w.heap.size):=λj hj=>by
    have aQ:W k≠[]:=λe=>by rw[e] at hj;simp at hj
    obtain⟨h1,off,h2,h3⟩:=ax (λe=>aQ (by unfold dL at e;simpa using e));exact⟨off,h2,h1,by rw[h3 j hj,nA hj],aP.out aQ⟩
   have qK:Hid (bh w3 w.heap.size (dL (dR 256 λc=>G k c+((W k).take 0).count c)).toArray 195):=J.out.2.keep ai (by simp);obtain⟨oI,af⟩:=hh2 (J.out.1.trans' ai) (λj hj=> @EW (W k) j hj);have nE:Hid (∀U,bh U w.heap.size (dL (dR 256 λc=>G k c+((W k).take (W k).length).count c)).toArray 195->bh U w.heap.size (dL (dR 256 λc=>G (k+1) c)).toArray 195):=λU hb=>by
    rw[tD (λc _=>aM.out k c)];rwa[gy] at hb
   have ak:Hid (∀j c,((W k).take j).count c<=45):=λj c=>cG List.count_le_length (by rw[aJ];omega)
   have ae:Hid (∀j,j<(W k).length->(W k).getD j 0<256):=λj hj=>(aH.out _ (by rw[aj,aD hj];exact bF hj)).2
   clear ai hg ax ag aX J aK aP aH aW;obtain⟨m,hm⟩:∃m,(W k).length=m:=⟨_,rfl⟩;rw[hm] at Mm af nE ae aV;rw[hm];clear hm;generalize W k=L at *;go_wp2_with fail;go_loopg [16] m (λgh s16 U=>∃j:Nat,j+gh=m/\s16= .int .i64 (j:Int)/\Hid (ay [w.heap.size] w3 U/\bh U w.heap.size (dL (dR 256 λc=>G k c+(L.take j).count c)).toArray 195))
   case atStart=>exact⟨0,by omega,rfl,ay.refl _ _,qK.out⟩
   case round=>
    clear qK;obtain⟨j,hj,rfl,J⟩:=hrel;cases gk with
    |zero=>
     obtain rfl:j=m:=by omega
     have HF:Hid (ay [] w wr/\bh wr w.heap.size (dL (dR 256 λc=>G (k+1) c)).toArray 195):=⟨oI.out.trans J.out.1 (by intro x hx;rw[au] at hx;omega),nE.out _ J.out.2⟩;clear J nE Mm af ak ae;go_wp2_with fail;go_roundg gg;case measure=>omega
     case rel=>exact⟨k+1,by omega,by go_num,HF.out⟩
    |succ g2=>
     have aI:j<m:=by omega
     have Qe:(j:Int)<(m:Int):=by omega
     have Ci:(0:Int)<=(j:Int):=by omega
     obtain⟨off,rfl,aR,d1,S6⟩:=Mm.out j aI;have c1:wr.cell? ⟨g,off+j,none⟩=some (.int .i64 ((L.getD j 0:Nat):Int)):=(aO (a:=⟨g,off+j,none⟩) (J.out.1.block g aR (by simpa using S6))).trans d1;have hy:=ae.out j aI;have aF:=λc=>af.out j (by omega) c
     have aS:=Mi.out (L.getD j 0);have aT:=ak.out j (L.getD j 0);generalize L.getD j 0=y at *;have c2:=LK J.out.2 (j:=y) hy;obtain⟨z,hz⟩:∃z,G k y+(L.take j).count y=z:=⟨_,rfl⟩;rw[hz] at c2;have ba:z<=1600:=by omega
     have PD:Hid (∀x:Int,x=((z+1:Nat):Int)->bh (wr.setCell ⟨w.heap.size,y,none⟩ (.int .i64 x)) w.heap.size (dL (dR 256 λc=>G k c+(L.take (j+1)).count c)).toArray 195):=λx hx=>N8 J.out.2 y (λq hq=>by
      rw[aF q];by_cases e:q=y
      ·subst e;rw[aB rfl,aB rfl];omega
      ·rw[aA e,aA e]) (by rw[hx,hz])
     have f2:=J.out.2.frozen y;have nK:=ar J.out.1;have bb:(0:Int)<=(y:Int):=by omega
     have aZ:(y:Int)<256:=by omega
     clear J d1 aF hz aS aT Mm af ak ae;go_wp2_with fail;go_roundg g2;case measure=>omega
     case rel=>exact⟨j+1,by omega,by go_num,nK.out.setCell (.inl (by simp)) _,PD.out _ (by go_num)⟩
  |zero=>
   obtain rfl:k=32:=by omega
   have nK:=ar J.out.1;have HL:Hid ((loadVar 195 w.heap.size).run prog wr= .ok (.agg (dL (dR 256 λc=>G 32 c)).toArray) wr):=VC J.out.2;have HZ:Hid (∀c,c<256->(dL (dR 256 λc=>G 32 c)).toArray[c]? =some (.int .i64 (G 32 c:Int))):=λc hc=>yu hc
   have aC:=ar (λc=>av.out 32 c (by omega));clear J ug ah av aM hk;generalize (dL (dR 256 λc=>G 32 c)).toArray=ZC at *;go_wp2_with(with_reducible refine gL 195 HL.out ?_);go_loopg [28] 256 (λgh s28 U=>wr=U/\∃c:Nat,c+gh=256/\s28= .int .i64 (c:Int)/\Hid (∀b:Nat,b<c->G 32 b<=1/\(dG X b=true↔G 32 b=1)))
   case atStart=>exact⟨rfl,0,by omega,rfl,λi hi=>by omega⟩
   case round=>
    obtain⟨rfl,c,hc,rfl,J⟩:=hrel;cases gk with
    |zero=>
     obtain rfl:c=256:=by omega
     have HF:=ar (HP.out true _ ⟨λ_=>J.out,λ_=>rfl⟩ nK.out);clear J HP HZ aC aa HL;go_wp2_with fail;go_ret;exact HF.out
    |succ g2=>
     have V:c<256:=by omega
     have PB:(c:Int)<256:=by omega
     have Iu:=mb 195 3 256 .i64 ZC c _ underlying195 underlying3 oU V (HZ.out c V);have ac:=ar (aa.out _ nK.out c V);have hm:=aC.out c;have nE:Hid ((G 32 c<=1/\(dG X c=true↔G 32 c=1))->∀b:Nat,b<c+1->G 32 b<=1/\(dG X b=true↔G 32 b=1)):=λhh b hb=>by
      by_cases e:b=c
      ·rw[e];exact hh
      ·exact J.out b (by omega)
     have jY:Hid (¬(G 32 c<=1/\(dG X c=true↔G 32 c=1))->¬∀b:Nat,b<256->G 32 b<=1/\(dG X b=true↔G 32 b=1)):=λhh ha=>hh (ha c V)
     generalize dG X c=u,G 32 c=z at *;clear J HZ aC aa HL;by_cases h1:1<z
     ·have aU:(1:Int)<(z:Int):=by omega
      have HF:=ar (HP.out false _ ⟨(λh=>by cases h),λhh=>absurd hh (jY.out λh=>by omega)⟩ nK.out);clear nE jY HP h1;go_wp2_with fail;go_ret;exact HF.out
     ·have aU:¬(1:Int)<(z:Int):=by omega
      by_cases hz:z=1
      ·subst hz
       cases u
       ·have HF:=ar (HP.out false _ ⟨(λh=>by cases h),λhh=>absurd hh (jY.out λh=>by simp at h)⟩ nK.out)
        clear nE jY HP h1;go_wp2_with fail;refine C' ac.out ?_;go_wp2_with fail;go_ret;exact HF.out
       ·have HN:=ar (nE.out ⟨by omega,by simp⟩)
        clear nE jY HP h1;go_wp2_with fail;refine C' ac.out ?_;go_wp2_with fail;go_roundg g2;case measure=>omega
        case rel=>exact⟨rfl,c+1,by omega,by go_num,HN.out⟩
      ·obtain rfl:z=0:=by omega
       cases u
       ·have HN:=ar (nE.out ⟨by omega,by simp⟩)
        clear nE jY HP h1 hz;go_wp2_with fail;refine C' ac.out ?_;go_wp2_with fail;go_roundg g2;case measure=>omega
        case rel=>exact⟨rfl,c+1,by omega,by go_num,HN.out⟩
       ·have HF:=ar (HP.out false _ ⟨(λh=>by cases h),λhh=>absurd hh (jY.out λh=>by simp at h)⟩ nK.out)
        clear nE jY HP h1 hz;go_wp2_with fail;refine C' ac.out ?_;go_wp2_with fail;go_ret;exact HF.out
end Go.Proofs.YtimcfdnbpkiniaaGreatDoor

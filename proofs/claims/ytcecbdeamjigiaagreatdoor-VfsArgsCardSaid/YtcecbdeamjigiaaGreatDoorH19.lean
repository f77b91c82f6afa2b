/- Lemmas. -/
import Derived.Test.YtcecbdeamjigiaaGreatDoorH18
set_option maxHeartbeats 4000000
set_option maxRecDepth 100000
namespace Go.Proofs.YtcecbdeamjigiaaGreatDoor
open Go.RowKit
variable{B X l:List Int}{V b cap g gp j k n y z:Nat}{w w':World}{a:Option Addr}{T:List (bM×Value)}{ps:List (Int×Int)}{own:Nat->List Nat}{f f':Nat->Nat}
theorem M7 (h:j<l.length):(zs l)[j]? =some (.int .i64 (l.getD j 0)):=eR h
def EU (w:World) (h:Prop) (e:Ending) (w':World):Prop:=∃r:Int,e= .returned (.int .i64 r)/\w=w'/\(0<=r↔h)
theorem Tt (x:Int)(hR:Reads w (.slice a l.length cap) g (zs l)):
  Calls Tryz.prog 181 #[.slice a l.length cap,.int .i64 x] w (EU w (x∈l)):=by
 have W:Hid (∀j,j<l.length->∃off,a=some ⟨g,off,none⟩/\w.cell? ⟨g,off+j,none⟩=some (.int .i64 (l.getD j 0))):=λj z=>by
  obtain⟨a',V,hv,-,-,h3⟩:=hR
  injection hv with e1 e2 e3
  have ae:zs l≠[]:=λe=>by have :=ck List.length e;rw[dJ,cp] at this;omega
  obtain⟨-,off,h5,h6⟩:=h3 ae;exact⟨off,by rw[e1];exact h5,by rw[h6 j (by rw[dJ];exact z),M7 z]⟩
 have ac:l.length<=maxLen:=by
  obtain⟨a',V,hv,h1,h2,-⟩:=hR;rw[dJ] at h1;omega
 have HM:Hid (∀j,j<l.length->l.getD j 0=x->x∈l):=λj z e=>by
  rw[<-e,aj,aD z];exact bp z
 have Z:Hid ((∀j,j<l.length->l.getD j 0≠x)->¬x∈l):=λh hm=>by
  obtain⟨j,z,e⟩:=bR hm;exact h j z (by rw[aj,aD z];exact e)
 unfold maxLen at ac;clear hR;generalize hm:l.length=m at *;clear hm;have U:Hid (∀r:Int,(0<=r↔x∈l)->EU w (x∈l) (.returned (.int .i64 r)) w):=λr h=>⟨r,rfl,rfl,h⟩
 generalize aa:(x∈l)=px at *;clear aa;go_enter Tryz.func181,Tryz.ntmps181;go_wp2_with fail;go_loopg [8] m (λgh s8 wx=>∃k:Nat,k+gh=m/\s8= .int .i64 (k:Int)/\w=wx/\Hid (∀j,j<k->l.getD j 0≠x))
 case atStart=>exact⟨0,by omega,rfl,rfl,λj z=>by omega⟩
 case round=>
  obtain⟨k,hk,rfl,rfl,J⟩:=hrel;cases gk with
  |zero=>
   obtain rfl:k=m:=by omega
   have HF:=ar (U.out (-1) ⟨λh=>by omega,λh=>absurd h (Z.out J.out)⟩);clear W HM Z J U;go_wp2_with fail;go_ret;exact HF.out
  |succ gg=>
   have af:(k:Int)<(m:Int):=by omega
   have ez:(0:Int)<=(k:Int):=by omega
   have GN:k<m:=by omega
   obtain⟨off,rfl,c0⟩:=W.out k GN;by_cases G:l.getD k 0=x
   ·have HF:=ar (U.out (k:Int) ⟨λ_=>HM.out k GN G,λ_=>ez⟩)
    have hb:(x==l.getD k 0)=true:=by rw[G];simp
    clear W HM Z J U G;generalize l.getD k 0=y at *;go_wp2_with fail;go_ret;exact HF.out
   ·have nZ:Hid (∀j,j<k+1->l.getD j 0≠x):=λj z=>by
     by_cases e:j=k
     ·rw[e];exact G
     ·exact J.out j (by omega)
    have hb:(x==l.getD k 0)=false:=by rw[cg];exact λe=>G e.symm
    clear W HM Z J U G;generalize l.getD k 0=y at *;go_wp2_with fail;go_roundg gg;case measure=>omega
    case rel=>exact⟨k+1,by omega,by go_num,rfl,nZ.out⟩
theorem Jf (x:Int)(h:Reads w (.slice a l.length cap) g (zs l)):
  Calls Tryz.prog 154 #[.slice a l.length cap,.int .i64 x] w λe w'=>e= .returned (.bool (decide (x∈l)))/\w=w':=by
 have z:=ar (Tt x h);clear h;generalize l.length=m at *;go_enter Tryz.func154,Tryz.ntmps154;go_wp2_with fail;refine z.out.mono ?_;rintro e w' ⟨r,rfl,rfl,y⟩;have G:=ar y;clear y;go_wp2_with fail;go_ret;refine⟨?_,rfl⟩;show Ending.returned (.bool (decide (0<=r)))=_;rw[decide_eq_decide.2 G.out]
theorem Gl{P:Program}(ac:Nat)(t ty e:TypeId)(i:TypeInfo)(z:Value)(size bytes:Nat)(ht:P.underlying t=some (.slice e))(hi:P.info? e=some i)(hz:i.zero=some z)
  (Z:i.size=size) (ag:i.bytes=bytes) (ar:0<size) (g n cap:Nat) (xs:List Value) (U:w.ownsRow ac e size (.slice (some ⟨g,0,none⟩) n cap) n xs)
  (a:Addr) (m c:Nat) (y:List Value) (hl:y.length=m*size) (G:∀j u,y[j]? =some u->w.cell? (a.add j)=some u) (h1:∀u∈y,u.oneCell'=true)
  (ah:n+m<=maxLen) (W:(n+m)*bytes<=140737488355328) {v':Value} {w':World} (hr:(Builtin.append_ #[t,t] ty #[.slice (some ⟨g,0,none⟩) n cap,.slice (some a) m c]).run P w= .ok v' w'):
  v'.ownBlock=some g\/v'.ownBlock=some w.heap.size:=by
 subst Z;subst ag;have ap:n+m<=9223372036854775807:=by simp only[maxLen] at ah;omega
 have aa:∀j u,xs[j]? =some u->w.cell? ((⟨g,0,none⟩:Addr).add j)=some u:=U.cells (g:=g) rfl;rcases U.2 with ⟨h,-⟩|⟨g',ai,ae,hv,aq,hg,au,ak,af,aj⟩
 ·cases h
 ·cases hv
  by_cases V:n+m<=cap
  ·have Kk:n*i.size+y.length<=ae.size:=by rw[hl,af,<-Nat.add_mul];exact Nat.mul_le_mul_right _ V
   have J:=run_append_room (P:=P) w t ty e i ht hi g n cap ae hg a m c y hl G h1 V Kk;rw[hr] at J
   injection J with e1 e2
   rw[e1];exact .inl rfl
  ·have J:=run_append_grow (P:=P) w t ty e i z ht hi hz ⟨g,0,none⟩ n cap xs U.1 aa a m c y hl G (by omega) (by omega) (growslice_fits (by omega) W)
   rw[hr] at J
   injection J with e1 e2
   rw[e1];exact .inr rfl
def dg (w:World) (p:Prop) (e:Ending) (w':World):Prop:=∃r:Bool,e= .returned (.bool r)/\(r=true↔p)/\ay [] w w'
theorem zJ (w:World):(zeroValue 88).run Tryz.prog w= .ok (.agg #[.string ⟨#[]⟩,.int .i64 0]) w:=by kernel_rfl
theorem xt{T:Nat}{h:Array Value}(s:ByteArray)(y:Int)(G:bm w g h T)(J:h.size=2):
  ∃w',(storeVar 88 ⟨g,0,none⟩ (.agg #[.string s,.int .i64 y])).run Tryz.prog w= .ok () w'/\bm w' g #[.string s,.int .i64 y] T/\ay [g] w w':=
 br (P:= Tryz.prog) (ty:= 88) (cs:=[.string s,.int .i64 y]) BL G (by rw[J];rfl) (by intro u z;simp only[aS,aV,bL] at z;rcases z with rfl|rfl<;>rfl)
theorem LH (HG:Hid (∀x wx,ay [] w wx->Calls Tryz.prog 95 #[.pointer (some ⟨b,0,none⟩),.int .i64 x] wx λe w'=>∃n v g a c cap r,e= .returned (.tuple #[.agg (aU n v),.slice a c cap,.int .i64 r])/\n.B.length=13/\bz w' v g n.E/\wx.heap.size<=g/\n.E.map (·.2)=mj T x/\ay [] wx w'))(hN:Ph T)(d i:Int):
  Calls Tryz.prog 112 #[.pointer (some ⟨b,0,none⟩),.int .i64 d,.int .i64 i] w (dg w (Reach T d i)):=by
 have Dg:Hid (∀R k,nU T d i R k->R.length<=33):=λR k hb=>hb.len hN
 obtain⟨i0,hi,Mu,aH,aR⟩:=cJ Tryz.info_int;have aW:Hid ((w.alloc (.cells #[.int .i64 d] 3)).ownsRow w.heap.size 3 1 (.slice (some ⟨w.heap.size,0,none⟩) 1 1) 1 (zs [d])):=
  ⟨rfl,.inr ⟨w.heap.size,1,#[.int .i64 d],rfl,aG _,bm.new w _ _,aG _,by unfold maxLen;omega,rfl,rfl⟩⟩
 have nu:=ar (nU.start T d i);have QC:Hid (∀R k,nU T d i R k->k<=R.length):=λR k U=>U.le
 have Ye:Hid (∀R k x,nU T d i R k->R[k]? =some x->x=i->Reach T d i):=λR k x U h2 h3=>U.found h2 h3
 have LI:Hid (∀R k,nU T d i R k->k=R.length->¬Reach T d i):=λR k U h2=>U.ended h2
 have aq:Hid (∀R k x y,nU T d i R k->R[k]? =some x->y∈mj T x->y∉R->nU T d i (R++[y]) k/\(R++[y])[k]? =some x):=λR k x y U h2 h3 h4=>U.more h2 h3 h4
 have lO:Hid (∀R k x,nU T d i R k->R[k]? =some x->x≠i->(∀y∈mj T x,y∈R)->nU T d i R (k+1)):=λR k x U h2 h3 h4=>U.next h2 h3 h4
 have aI:Hid (∀r w',(r=true↔Reach T d i)->ay [] w w'->dg w (Reach T d i) (.returned (.bool r)) w'):=λr w' U h2=>⟨r,rfl,U,h2⟩
 have p8:=eV;obtain⟨Z0,yJ⟩:∃Z0,aU cB (.slice none 0 0)=Z0:=⟨_,rfl⟩;have C7:Hid (Z0.size=18):=by show _=_;rw[<-yJ];rfl
 rw[yJ] at p8;have bD:=zJ;clear yJ hN;generalize ba:Reach T d i=pR at *;generalize bt:nU T d i=bI at *;generalize mj T=sL at *;clear ba bt;go_enter Tryz.func112,Tryz.ntmps112;go_wp2_with fail;go_loopg [7,8] 33 (λgh s7 s8 wz=>∃(R:List Int) (k:Nat),s8= .int .i64 (k:Int)/\k+gh=33/\Hid (bI R k/\wz.ownsRow w.heap.size 3 1 s7 R.length (zs R)/\ay [] w wz/\R≠[]))
 case atStart=>exact⟨[d],0,rfl,rfl,nu.out,aW.out,(ay.refl _ _).alloc _,by simp⟩
 case round=>
  clear aW nu;obtain⟨R,k,rfl,hk,J⟩:=hrel;obtain⟨gR,ho,av⟩:=eE.of_row J.out.2.1;have ac:R.length≠0:=λe=>J.out.2.2.2 (bg e)
  obtain⟨az,⟨cR,rfl,aK,bs⟩,V,YV⟩:=ho.cell ac;have bu:=Dg.out R k J.out.1;have UM:=(av ac).1;by_cases ED:k<R.length
  ·obtain⟨gg,rfl⟩:∃gg,gk=gg+1:=⟨gk-1,by omega⟩
   have hx:R[k]? =some (R.getD k 0):=by rw[aj,aD ED];rfl
   have c0:wr.cell? ⟨gR,k,none⟩=some (.int .i64 (R.getD k 0)):=by rw[V k (by omega),M7 ED]
   have HX:=ar hx;clear hx V YV ho av;generalize R.getD k 0=x at *;by_cases Iy:x=i
   ·have xL:=ar (Ye.out R k x J.out.1 HX.out Iy)
    have gI:=ar J.out.2.2.1;have bn:(x==i)=true:=by rw[Iy];simp
    have ye:(k:Int)<(R.length:Int):=by omega
    have ez:(0:Int)<=(k:Int):=by omega
    clear J Iy Ye LI aq lO HG Dg;generalize R.length=q at *;go_wp2_with fail;go_ret;exact aI.out true _ ⟨λ_=>xL.out,λ_=>rfl⟩ gI.out
   ·have bn:(x==i)=false:=by simpa using Iy
    have ye:(k:Int)<(R.length:Int):=by omega
    have ez:(0:Int)<=(k:Int):=by omega
    have aw:=ar (HG.out x wr J.out.2.2.1);have X3:=ar Iy;clear Iy;obtain⟨q,hq⟩:∃q,R.length=q:=⟨_,rfl⟩;have HQ:=ar hq;rw[hq] at ye ED bu ac aK;rw[hq];clear hq;go_wp2_with fail;refine aw.out.mono ?_;rintro e w3 ⟨n,v,g,a,c,cap,r,rfl,hB,hE,hg,aB,ah⟩;have aM:=J.out.2.2.1;have bc:=ah.size;obtain⟨an,cn,hv,MM,aS,-⟩:=hE.open;subst hv;obtain⟨w4,p1,p2,p3⟩:=fF (n:=n) (v:= .slice an n.E.length cn) (bm.new w3 Z0 110) C7.out hB rfl;have aa:ay [] w3 w4:=((ay.refl [] w3).alloc _).trans p3 (by intro x hx;rw[au] at hx;omega);have bv:=aa.size;have aZ:w4.cell? ⟨w3.heap.size,17,none⟩=some (.slice an n.E.length cn):=by rw[p2.cell];exact(jo _ hB).f5
    have wj:=ar p1;have af:=J.out.2.1;rw[HQ.out] at af;have j1:=ar (cO (cO af ah (by simp)) aa (by simp));have aY:=ar (hE.keep aa (by simp));have nK:=ar ((aM.trans' ah).trans' aa);have Ss:Hid (gR<wr.heap.size/\wr.heap.size<=g/\gR<w4.heap.size/\w.heap.size<=gR):=⟨az,hg,by omega,UM⟩;have J8:=ar aB;have aQ:=ar J.out.1;have Yc:n.E.length<=9223372036854775807:=by unfold maxLen at aS;omega
    clear p1 p2 p3 ah aa hE hg aB J aM bc bv af aw az UM aS bs aK;generalize aU n (.slice an n.E.length cn)=ZN at *;obtain⟨mE,hm⟩:∃mE,n.E.length=mE:=⟨_,rfl⟩;have ag:=ar hm;rw[hm] at aZ aY Yc;clear hm;go_wp2_with(with_reducible refine gS 110 wj.out ?_);clear aZ;go_loopg [7,41] mE (λgh s7 s41 wz=>∃(G:List Int) (j:Nat),s41= .int .i64 (j:Int)/\j+gh=mE/\Hid (bI G k/\G[k]? =some x/\(∀t,t<j->gT n.E t∈G)/\wz.ownsRow w.heap.size 3 1 s7 G.length (zs G)/\ay [] w wz/\ay [gR] w4 wz/\(∀kk,s7.ownBlock=some kk->kk=gR\/w4.heap.size<=kk)/\G≠[]))
    case atStart=>exact⟨R,0,rfl,by omega,aQ.out,HX.out,(λt ht=>by omega),(by rw[HQ.out];exact j1.out),nK.out,ay.refl _ _,(λkk e=>by simp[Value.ownBlock] at e;exact .inl e.symm),(λe=>ac (by rw[<-HQ.out,e];rfl))⟩
    case round=>
     clear j1 aQ ED ye ac;obtain⟨G,j,rfl,hj,J⟩:=hrel;obtain⟨q1,q2,q3,q4,q5,q6,q7,q8⟩:=J.out;have br:=Dg.out _ _ q1;cases gk with
     |zero=>
      obtain rfl:j=mE:=by omega
      have Aj:Hid (bI G (k+1)):=lO.out G k x q1 q2 X3.out (λy hy=>by
       rw[<-J8.out] at hy;obtain⟨t,ht,e⟩:=bR hy;rw[bJ] at ht;have :=q3 t (by rw[<-ag.out];exact ht);rw[fx] at e;rwa[show gT n.E t=y by rw[<-e];simp[gT,ht]] at this)
      have BU:=ar (And.intro q4 (And.intro q5 q8));clear J q1 q2 q3 q4 q5 q6 q7 q8;go_wp2_with fail;go_roundg gg;case measure=>omega
      case rel=>exact⟨G,k+1,by go_num,by omega,Aj.out,BU.out.1,BU.out.2.1,BU.out.2.2⟩
     |succ g2=>
      have LF:j<mE:=by omega
      have KG:(j:Int)<(mE:Int):=by omega
      have zi:(0:Int)<=(j:Int):=by omega
      obtain⟨UN,Dx,bo⟩:=eE.of_row q4;have bh:G.length≠0:=λe=>q8 (bg e)
      obtain⟨N2,⟨ap,bw,bA,bk⟩,-,-⟩:=Dx.cell bh;subst bw;have ak:=aY.out;rw[<-ag.out] at ak LF;obtain⟨ax,cx,bq,KJ,bf,aN⟩:=ak.open
      injection bq with e1 e2 e3
      subst e1 e3;obtain⟨se,off,rfl,d1,d2⟩:=aN.out j LF;rw[ag.out] at LF;have B1:g∉[gR]:=by have :=Ss.out;rw[au];omega
      have ae:Hid ((loadVar 88 ⟨g,off+j*2,none⟩).run Tryz.prog wr= .ok (.agg #[.string (eh n.E j),.int .i64 (gT n.E j)]) wr):=
       vN ((aL (w:=w4) (a:=⟨g,off+j*2,none⟩) (q6.block g se B1)).trans d1) ((aL (w:=w4) (a:=⟨g,off+j*2+1,none⟩) (q6.block g se B1)).trans d2)
      have aV:gT n.E j∈sL x:=by
       rw[<-J8.out];have U:j<n.E.length:=by rw[ag.out];exact LF
       refine bB.2 ⟨n.E[j],bp U,?_⟩;simp[gT,U]
      obtain⟨W,p1,p2,p3⟩:=xt (eh n.E j) (gT n.E j) (bm.new wr #[.string ⟨#[]⟩,.int .i64 0] 88) rfl;have jz:ay [] wr W:=((ay.refl [] wr).alloc _).trans p3 (by intro x hx;rw[au] at hx;omega);have c1:W.cell? ⟨wr.heap.size,1,none⟩=some (.int .i64 (gT n.E j)):=by rw[p2.cell];rfl
      have K5:=ar p1;have aA:=cO q4 jz (by simp);have bb:Hid (Reads W (.slice (some ⟨UN,0,none⟩) G.length ap) UN (zs G)):=Dx.reads.keep jz (by simp);have XK:=ar (Jf (gT n.E j) bb.out);have YX:=ar aA;have bl:=jz.size;have Z:Hid (bI G k/\G[k]? =some x/\(∀t,t<j->gT n.E t∈G)/\ay [] w W/\ay [gR] w4 W/\G≠[]/\(UN=gR\/w4.heap.size<=UN)/\w4.heap.size<=W.heap.size/\UN<W.heap.size):=⟨q1,q2,q3,q5.trans' jz,q6.trans jz (by simp),q8,q7 _ rfl,by have :=q6.size;omega,by omega⟩;have aP:=ar aV;clear p1 p2 p3 jz q1 q2 q3 q4 q5 q6 q7 q8 aA aV d1 d2 se B1 aN KJ bf ak J Dx bo N2 bk bl;obtain⟨y,hy⟩:∃y,gT n.E j=y:=⟨_,rfl⟩;have aC:=ar hy;rw[hy] at ae K5 c1 XK aP;clear hy;obtain⟨sN,aX⟩:∃sN,eh n.E j=sN:=⟨_,rfl⟩;rw[aX] at ae K5;clear aX;go_wp2_with(first|(with_reducible refine gL 88 ae.out ?_)|(with_reducible refine gS 88 K5.out ?_));refine XK.out.mono ?_;rintro e w' ⟨rfl,rfl⟩;by_cases k6:y∈G
      ·have hd:decide (y∈G)=true:=bj k6
       rw[hd];have Ay:=ar k6;clear hd k6 XK ae K5;go_wp2_with fail;go_roundg g2;case measure=>omega
       case rel=>exact⟨G,j+1,by go_num,by omega,Z.out.1,Z.out.2.1,(λt ht=>by
         by_cases e:t=j
         ·rw[e,aC.out];exact Ay.out
         ·exact Z.out.2.2.1 t (by omega)),YX.out,Z.out.2.2.2.1,Z.out.2.2.2.2.1,(λkk e=>by simp[Value.ownBlock] at e;rw[<-e];exact Z.out.2.2.2.2.2.2.1),Z.out.2.2.2.2.2.1⟩
      ·have hd:decide (y∈G)=false:=aT k6
       rw[hd];obtain⟨m1,m2⟩:=aq.out G k x y Z.out.1 Z.out.2.1 aP.out k6;have GM:=bm.new W #[.int .i64 y] 3;have bC:G.length<=33:=br;obtain⟨v',w8,hr,aJ,Ic⟩:=jE (P:= Tryz.prog) 134 3 134 i0 _ 1 8 Tryz.underlying134 hi Mu aH aR rfl (by omega) w.heap.size G.length _ _ (YX.out.alloc (.cells #[.int .i64 y] 3)) (some ⟨W.heap.size,0,none⟩) 1 1 [.int .i64 y] rfl (λ_=>⟨_,rfl,iP _ [_] _ _ rfl⟩) (by simp[Value.oneCell']) (by unfold maxLen;omega) (by omega) (by have U:=Ss.out;have h2:=Z.out;simp;omega);have ai:=Gl (P:= Tryz.prog) w.heap.size 134 134 3 i0 _ 1 8 Tryz.underlying134 hi Mu aH aR (by omega) UN G.length ap _ (YX.out.alloc (.cells #[.int .i64 y] 3)) ⟨W.heap.size,0,none⟩ 1 1 [.int .i64 y] rfl (iP _ [_] _ _ rfl) (by simp[Value.oneCell']) (by unfold maxLen;omega) (by omega) hr;have qP:ay [UN] W w8:=((ay.refl [UN] W).alloc (.cells #[.int .i64 y] 3)).trans (ay.of_grown (l:=[UN]) Ic (λkk e=>by simp[Value.ownBlock] at e;exact .inl (by simp[e]))) (λz hz=> .inl hz);have HN:Hid (bI (G++[y]) k/\(G++[y])[k]? =some x/\(∀t,t<j+1->gT n.E t∈G++[y])/\w8.ownsRow w.heap.size 3 1 v' (G++[y]).length (zs (G++[y]))/\ay [] w w8/\ay [gR] w4 w8/\(∀kk,v'.ownBlock=some kk->kk=gR\/w4.heap.size<=kk)/\G++[y]≠[]):=by
        obtain⟨a1,a2,a3,a4,a5,a6,a7,a8,a9⟩:=Z.out;have U:=Ss.out;refine⟨m1,m2,λt ht=> ?_,?_,a4.trans qP (λz hz=>by rw[au] at hz;right;omega),a5.trans qP (λz hz=>by rw[au] at hz;subst hz;rcases a7 with e|e;exact .inl (by simp[e]);exact .inr e),λkk e=> ?_,by simp⟩
        ·by_cases e:t=j
         ·rw[e,aC.out];simp
         ·have :=a3 t (by omega);simp[this]
        ·rw[aF,x9]
         exact aJ
        ·rcases ai with e2|e2
         ·rw[e2] at e;injection e with e;rw[<-e];exact a7
         ·rw[e2] at e;injection e with e;rw[<-e];right;simp;omega
       clear hd k6 XK ae K5 m1 m2 GM aJ Ic ai qP;generalize G.length=q' at *;go_wp2_with(at_builtin;refine wpList_append_run rfl (.tmp 50) (.tmp 53) 134 134 ?_ (.slice (some ⟨UN,0,none⟩) q' ap) (.slice (some ⟨W.heap.size,0,none⟩) 1 1) ?_ ?_ hr ?_;all_goals first|rfl|skip);go_roundg g2;case measure=>omega
       case rel=>exact⟨G++[y],j+1,by go_num,by omega,HN.out⟩
  ·have ye:¬(k:Int)<(R.length:Int):=by omega
   have aO:k=R.length:=by
    have U:=J.out.1;have h2:k<=R.length:=QC.out R k U;omega
   have jr:=ar (LI.out R k J.out.1 aO);have gI:=ar J.out.2.2.1;clear J Ye LI aq lO HG Dg aO V YV ho av;generalize R.length=q at *;go_wp2_with fail;go_ret;exact aI.out false _ ⟨(λh=>by cases h),λh=>absurd h jr.out⟩ gI.out
def Tv (X:List Int) (b:Int):Bool:=if De b=true then cT X b.toNat else true
theorem Pq (h:eF w b V B ps)(G:dD (az B ps))(i:Int):
  Calls Tryz.prog 130 #[.pointer (some ⟨b,0,none⟩),.int .i64 i] w λe w'=>e= .returned (.bool (Tv (az B ps) i))/\w=w':=by
 have z:=ar (wK i w);unfold Tv;cases hi:De i
 ·rw[hi] at z
  rw[aA (by simp)];clear hi h;go_enter Tryz.func130,Tryz.ntmps130;go_wp2_with(go_at_call 161;refine z.out.mono ?_;rintro e w' ⟨rfl,rfl⟩);go_ret;exact⟨rfl,rfl⟩
 ·rw[hi] at z
  rw[aB rfl];obtain⟨W,h1⟩:=sU.1 hi;clear hi;obtain⟨j,rfl⟩:=cj W;have U:j<256:=by omega
  rw[aH];have Z:=ar (zh j U w);have HM:=ar (sV j U w);have J:=ar (mO h ((816+j/64:Nat):Int));rw[x8 G (j/64) (by omega)] at J;have ha:=fI (bw (az B ps) (j/64)) (lU j) (Bi G _) (FA j);have he:((((bw (az B ps) (j/64) &&& lU j:Nat):Int)) != 0)=cT (az B ps) j:=by
   have :=Rn (bw (az B ps) (j/64)) j;unfold cT;rw[Bool.eq_iff_iff,<-this];simp
  generalize bw (az B ps) (j/64) &&& lU j=y at *;generalize bw (az B ps) (j/64)=x at *;generalize lU j=m at *;generalize cT (az B ps) j=u at *;clear h G;go_enter Tryz.func130,Tryz.ntmps130;go_wp2_with fail;refine z.out.mono ?_;rintro e w' ⟨rfl,rfl⟩;go_wp2_with fail;refine Z.out.mono ?_;rintro e w' ⟨rfl,rfl⟩;go_wp2_with fail;refine J.out.mono ?_;rintro e w' ⟨rfl,rfl⟩;go_wp2_with fail;refine HM.out.mono ?_;rintro e w' ⟨rfl,rfl⟩;go_wp2_with fail;go_ret;exact⟨rfl,rfl⟩
structure nE (X:List Int) (T:List (bM×Value)) (own:Nat->List Nat):Prop where
 len:T.length=32
 each:∀i:Nat,i<32->dT X (i:Int) (nT T i) (own i)\/((∀n o,¬dT X (i:Int) n o)/\nT T i=cB/\own i=[])
theorem WJ (X:List Int):∃T own,nE X T own:=by
 have h:∀i:Nat,∃p:bM×List Nat,dT X (i:Int) p.1 p.2\/((∀n o,¬dT X (i:Int) n o)/\p.1=cB/\p.2=[]):=λi=>by
  by_cases h:∃p:bM×List Nat,dT X (i:Int) p.1 p.2
  ·obtain⟨p,z⟩:=h
   exact⟨p,.inl z⟩
  ·exact⟨(cB,[]),.inr ⟨λn o G=>h ⟨(n,o),G⟩,rfl,rfl⟩⟩
 obtain⟨f,y⟩:=Classical.axiomOfChoice h;refine⟨(List.range 32).map λi=>((f i).1,.slice none 0 0),λi=>(f i).2,by simp,λi J=> ?_⟩;have e:nT ((List.range 32).map λi=>((f i).1,Value.slice none 0 0)) i=(f i).1:=by
  unfold nT;rw[aj,bD,b7 J];rfl
 rw[e];exact y i
theorem Jg{i:Int}{n:bM}{o:List Nat}(h:dT X i n o):n.F=1\/n.F=2:=h.right.1
theorem nE.zero(h:nE X T own){i:Nat}(y:32<=i):nT T i=cB:=by
 unfold nT;rw[aj,aO (by rw[h.len];omega)];rfl
theorem nE.form(h:nE X T own)(i:Nat):((nT T i).F≠0/\i<32/\dT X (i:Int) (nT T i) (own i))\/((nT T i).F=0/\nT T i=cB/\(i<32->own i=[]/\∀n o,¬dT X (i:Int) n o)):=by
 rcases dr i 32 with z|z
 ·rcases h.each i z with y|⟨y,G,J⟩
  ·exact .inl ⟨by have :=Jg y;omega,z,y⟩
  ·exact .inr ⟨by rw[G];rfl,G,λ_=>⟨J,y⟩⟩
 ·have :=h.zero z
  exact .inr ⟨by rw[this];rfl,this,λh=>by omega⟩
theorem nE.tabS(h:nE X T own):aat T:=λi y=>by
 rcases h.form i with ⟨G,-⟩|⟨-,z,-⟩
 ·exact absurd y G
 ·rw[z];rfl
theorem nE.tabR(h:nE X T own):acD T:=λi z G=>by
 rcases h.form i with ⟨-,-,y⟩|⟨y,-⟩
 ·exact y.right
 ·omega
theorem nE.tabN(h:nE X T own):Ph T:=acE h.tabS h.tabR λi z=>by
 rcases h.form i with ⟨-,-,y⟩|⟨y,-⟩
 ·have :=Jg y;omega
 ·omega
theorem nE.get(h:nE X T own){i:Nat}(Z:i<32){n:bM}{o:List Nat}{r:Int}(hg:Pc X (i:Int) n o r):
  n=nT T i/\o=own i/\((r=0/\(nT T i).F≠0)\/(r=2/\(nT T i).F=0/\dI X (i:Int))\/(r=10/\(nT T i).F=0/\¬dI X (i:Int))):=by
 rcases hg with ⟨-,V,-⟩|⟨y,-,U,g3,W⟩|⟨y,-,U,g3,W,g5⟩|⟨y,V⟩
 ·omega
 ·rcases h.form i with ⟨-,-,e⟩|⟨J,G,z⟩
  ·exact absurd U e.notFree
  ·exact⟨by rw[g3,G],by rw[W,(z Z).1],.inr (.inl ⟨y,J,U⟩)⟩
 ·rcases h.form i with ⟨-,-,e⟩|⟨J,G,z⟩
  ·exact absurd e (g3 _ _)
  ·exact⟨by rw[W,G],by rw[g5,(z Z).1],.inr (.inr ⟨y,J,U⟩)⟩
 ·rcases h.form i with ⟨e0,-,e⟩|⟨J,G,z⟩
  ·obtain⟨rfl,rfl⟩:=e.uniq V
   exact⟨rfl,rfl,.inl ⟨y,e0⟩⟩
  ·exact absurd V ((z Z).2 _ _)
theorem nE.succ(h:nE X T own){x:Int}{n:bM}{o:List Nat}{r:Int}(G:Pc X x n o r):n.E.map (·.2)=mj T x:=by
 unfold mj;by_cases y:0<=x/\x<32
 ·obtain⟨j,rfl⟩:=cj y.1
  rw[aB y,(h.get (i:=j) (by omega) G).1];rfl
 ·rw[aA y]
  rcases G with ⟨-,-,J,-⟩|⟨-,z,-⟩|⟨-,z,-⟩|⟨-,z⟩
  ·rw[J];rfl
  ·exact absurd z y
  ·exact absurd z y
  ·exact absurd z.rng y
theorem nE.elen(h:nE X T own)(i:Nat):(nT T i).E.length<=24:=by
 rcases h.form i with ⟨-,-,y⟩|⟨-,y,-⟩
 ·exact(iA y.right).1
 ·rw[y];exact et _
def uB (E:List (ByteArray×Int)) (j i:Nat):Nat:=(E.take j).countP λe=>e.2==(i:Int)
theorem M8 (E:List (ByteArray×Int))(j i:Nat):uB E j i<=j:=
 cu List.countP_le_length (by rw[aI];omega)
theorem Pr (E:List (ByteArray×Int))(i:Nat):uB E 0 i=0:=by simp[uB]
theorem Ps{E:List (ByteArray×Int)}(y:j<E.length)(i:Nat):uB E (j+1) i=uB E j i+if gT E j=(i:Int) then 1 else 0:=by
 unfold uB;rw[bt y,List.countP_append,List.countP_singleton];have :gT E j=E[j].2:=by simp[gT,y]
 rw[this];by_cases h:E[j].2=(i:Int)<;>simp[h]
def EW (T:List (bM×Value)):Nat->Nat->Nat
 |0,_=>0
 |k+1,i=>EW T k i+uB (nT T k).E (nT T k).E.length i
def ju (T:List (bM×Value)) (i:Nat):Nat:=EW T 32 i
def iO (T:List (bM×Value)):Nat->List (Nat×bM)
 |0=>[]
 |k+1=>iO T k++if (nT T k).F=0 then [] else [(k,nT T k)]
def sx:List (Nat×bM)->Nat->Nat
 | [],_=>0
 |p::l,i=>uB p.2.E p.2.E.length i+sx l i
theorem zK (l m:List (Nat×bM))(i:Nat):sx (l++m) i=sx l i+sx m i:=by
 induction l with
 |nil=>simp[sx]
 |cons p l ih=>simp[sx,ih];omega
theorem Tw (y:aat T)(k i:Nat):sx (iO T k) i=EW T k i:=by
 induction k with
 |zero=>rfl
 |succ k ih=>
  unfold iO EW;rw[zK,ih];by_cases h:(nT T k).F=0
  ·rw[aB h,y k h];rfl
  ·rw[aA h];simp[sx]
theorem lI{p:Nat×bM}:p∈iO T k↔p.1<k/\p.2=nT T p.1/\p.2.F≠0:=by
 induction k with
 |zero=>simp[iO]
 |succ k ih=>
  unfold iO;rw[aP,ih];constructor
  ·rintro (⟨G,y,z⟩|h)
   ·exact⟨by omega,y,z⟩
   ·split at h
    ·simp at h
    ·next hF=>
     rw[au] at h;subst h;exact⟨by show k<_;omega,rfl,hF⟩
  ·rintro⟨G,y,z⟩
   by_cases e:p.1=k
   ·right
    rw[aA (by rw[<-e,<-y];exact z),au];obtain⟨a,c⟩:=p;cases e;exact ck (Prod.mk a) y
   ·exact .inl ⟨by omega,y,z⟩
def k8 (X:List Int):Prop:=
 X.getD 0 0=7596835243318849792/\(X.getD 1 0=1\/X.getD 1 0=2)/\X.getD 2 0<=32/\(∀i:Nat,3<=i->i<8->X.getD i 0=0)/\∀i:Nat,820<=i->i<824->X.getD i 0=0
def uk (X:List Int) (T:List (bM×Value)):Prop:=∀i:Nat,i<32->dI X (i:Int)\/(nT T i).F≠0
def Jh (X:List Int) (T:List (bM×Value)):Prop:=(nT T 0).K=2/\∀i:Nat,i<32->0<ju T i->¬dI X (i:Int)
def oY (i:Nat) (n:bM) (c:Nat):Prop:=(n.K=1->(c:Int)=n.L/\1<=c)/\(n.K=2->n.L=1/\(i=0->c=0)/\(i≠0->c=1))
def tJ (T:List (bM×Value)):Prop:=∀i:Nat,i<32->oY i (nT T i) (ju T i)
def Cx (X:List Int) (T:List (bM×Value)):Prop:=∀i:Nat,i<32->¬dI X (i:Int)->Reach T 0 (i:Int)
def iB (T:List (bM×Value)) (own:Nat->List Nat):Nat->Nat->Nat
 |0,_=>0
 |k+1,b=>iB T own k b+(own k++cP (nT T k)).count b
def sy (T:List (bM×Value)) (own:Nat->List Nat) (b:Nat):Nat:=iB T own 32 b
def M9 (X:List Int) (T:List (bM×Value)) (own:Nat->List Nat):Prop:=∀b:Nat,b<256->sy T own b<=1/\(cT X b=true↔sy T own b=1)
def iC (X:List Int) (n:bM):Prop:=n.K=1->∀k:Nat,k<13->n.B.getD k 0≠0->∀j:Nat,j<64->n.S<=64*(k:Int)+j->nO (X.getD (1080+8*(n.B.getD k 0).toNat+j/8) 0).toNat (j%8)=0
def tK (X:List Int) (T:List (bM×Value)):Prop:=∀i:Nat,i<32->iC X (nT T i)
def oZ (X:List Int) (T:List (bM×Value)) (own:Nat->List Nat):Nat->Prop
 |0=>k8 X
 |1=>uk X T
 |2=>Jh X T
 |3=>tJ T
 |4=>Cx X T
 |5=>M9 X T own
 |6=>tK X T
 |_=>True
def Gm (P:Nat->Prop) (k:Nat):Prop:=(k=0/\∀j,j<7->P j)\/(0<k/\k<=7/\¬P (k-1)/\∀j,j<k-1->P j)
theorem Gm.uniq{P:Nat->Prop}(h:Gm P k)(J:Gm P z):k=z:=by
 rcases h with ⟨rfl,G⟩|⟨h0,h1,G,Z⟩
 ·rcases J with ⟨rfl,-⟩|⟨V,U,y,-⟩
  ·rfl
  ·exact absurd (G _ (by omega)) y
 ·rcases J with ⟨rfl,y⟩|⟨V,U,y,W⟩
  ·exact absurd (y _ (by omega)) G
  ·rcases Nat.lt_trichotomy k z with e|e|e
   ·exact absurd (W (k-1) (by omega)) G
   ·exact e
   ·exact absurd (Z (z-1) (by omega)) y
theorem Pt{n:bM}(hB:n.B.length=13)(V:bP n)(hK:n.K=1):iC X n↔(n.S%64≠0->n.B.getD (n.S/64).toNat 0≠0->∀j:Nat,n.S%64<=(j:Int)->j<64->nO (X.getD (1080+8*(n.B.getD (n.S/64).toNat 0).toNat+j/8) 0).toNat (j%8)=0):=by
 have hS:0<=n.S/\n.S<=832:=by
  rcases V.2.2 with h|h
  ·exact h.2.1
  ·omega
 have U:=Pg hB V;constructor
 ·intro h h0 z j W G
  refine h hK (n.S/64).toNat (by omega) z j G ?_;omega
 ·intro h _ k J z j W Z
  have h1:=(U k J).2 (by have :=(U k J).1;omega);have h2:=h1.2.1;have y:k=(n.S/64).toNat:=by omega
  subst y;exact h (by omega) z j (by omega) W
theorem Pu{n:bM}(v:Value)(hB:n.B.length=13)(hK:n.K=1\/n.K=2)(i c:Nat)(w:World):
  Calls Tryz.prog 128 #[.int .i64 (i:Int),.agg (aU n v),.int .i64 (c:Int)] w (dg w (oY i n c)):=by
 have hb:=bm.new w (aU n v) 110;have hk:=(ay.refl [] w).alloc (.cells (aU n v) 110);have y:Hid (∀r:Bool,(r=true↔((n.K=1->(c:Int)=n.L/\1<=c)/\(n.K=2->n.L=1/\(i=0->c=0)/\(i≠0->c=1))))->dg w (oY i n c) (.returned (.bool r)) (w.alloc (.cells (aU n v) 110))):=λr h=>⟨r,rfl,h,hk⟩
 have c1:(w.alloc (.cells (aU n v) 110)).cell? ⟨w.heap.size,1,none⟩=some (.int .i64 n.K):=by rw[hb.cell];exact(jo v hB).f1
 have c2:(w.alloc (.cells (aU n v) 110)).cell? ⟨w.heap.size,2,none⟩=some (.int .i64 n.L):=by rw[hb.cell];exact(jo v hB).f2
 clear hb hk;generalize aU n v=Z at *;generalize oY i n c=pP at *;generalize n.K=K at *;generalize n.L=L at *;obtain⟨J,Mz⟩:∃J:Int,(c:Int)=J:=⟨_,rfl⟩;obtain⟨ii,V⟩:∃ii:Int,(i:Int)=ii:=⟨_,rfl⟩;have W:=ar Mz;have QL:=ar V;rw[Mz,V];rw[Mz] at y;clear Mz V;rcases hK with rfl|rfl
 ·by_cases G:J=L
  ·have b1:(J==L)=true:=by simpa using G
   by_cases U:1<=J
   ·have z:=ar (y.out true ⟨λ_=>⟨λ_=>⟨G,by have :=W.out;omega⟩,λh=>by omega⟩,λ_=>rfl⟩)
    clear y G;go_enter Tryz.func128,Tryz.ntmps128;go_wp2_with fail;go_ret;exact z.out
   ·have z:=ar (y.out false ⟨(λh=>by cases h),λh=>by have :=W.out;have :=(h.1 rfl).2;omega⟩)
    clear y G;go_enter Tryz.func128,Tryz.ntmps128;go_wp2_with fail;go_ret;exact z.out
  ·have b1:(J==L)=false:=by simpa using G
   have z:=ar (y.out false ⟨(λh=>by cases h),λh=>absurd (h.1 rfl).1 G⟩);clear y G;go_enter Tryz.func128,Tryz.ntmps128;go_wp2_with fail;go_ret;exact z.out
 ·by_cases e0:ii=0
  ·subst e0
   by_cases G:L=1
   ·subst G
    by_cases U:J=0
    ·subst U
     have z:=ar (y.out true ⟨λ_=>⟨λh=>by omega,λ_=>⟨rfl,λ_=>by have :=W.out;omega,λh=>by have :=QL.out;omega⟩⟩,λ_=>rfl⟩);clear y;go_enter Tryz.func128,Tryz.ntmps128;go_wp2_with fail;go_ret;exact z.out
    ·have b2:(J==0)=false:=by simpa using U
     have z:=ar (y.out false ⟨(λh=>by cases h),λh=>by have :=(h.2 rfl).2.1 (by have :=QL.out;omega);have :=W.out;omega⟩);clear y U;go_enter Tryz.func128,Tryz.ntmps128;go_wp2_with fail;go_ret;exact z.out
   ·have b1:(L==1)=false:=by simpa using G
    have z:=ar (y.out false ⟨(λh=>by cases h),λh=>absurd (h.2 rfl).1 G⟩);clear y G;go_enter Tryz.func128,Tryz.ntmps128;go_wp2_with fail;go_ret;exact z.out
  ·have b0:(ii==0)=false:=by simpa using e0
   by_cases G:L=1
   ·subst G
    by_cases U:J=1
    ·subst U
     have z:=ar (y.out true ⟨λ_=>⟨λh=>by omega,λ_=>⟨rfl,λh=>by have :=QL.out;omega,λ_=>by have :=W.out;omega⟩⟩,λ_=>rfl⟩);clear y e0;go_enter Tryz.func128,Tryz.ntmps128;go_wp2_with fail;go_ret;exact z.out
    ·have b2:(J==1)=false:=by simpa using U
     have z:=ar (y.out false ⟨(λh=>by cases h),λh=>by have :=(h.2 rfl).2.2 (by have :=QL.out;omega);have :=W.out;omega⟩);clear y U e0;go_enter Tryz.func128,Tryz.ntmps128;go_wp2_with fail;go_ret;exact z.out
   ·have b1:(L==1)=false:=by simpa using G
    have z:=ar (y.out false ⟨(λh=>by cases h),λh=>absurd (h.2 rfl).1 G⟩);clear y G e0;go_enter Tryz.func128,Tryz.ntmps128;go_wp2_with fail;go_ret;exact z.out
def Aq (i:Int) (x:Int):Prop:=(i=0->x=7596835243318849792)/\(i=1->x=1\/x=2)/\(i=2->x<=32)/\(2<i->x=0)
def EX (w:World) (p:Prop) (e:Ending) (w':World):Prop:=(∃r:Bool,e= .returned (.bool r)/\(r=true↔p))/\w=w'
theorem DG (i x:Int)(hi:0<=i)(w:World):
  Calls Tryz.prog 124 #[.int .i64 i,.int .u64 x] w (EX w (Aq i x)):=by
 have y:Hid (∀r:Bool,(r=true↔((i=0->x=7596835243318849792)/\(i=1->x=1\/x=2)/\(i=2->x<=32)/\(2<i->x=0)))->EX w (Aq i x) (.returned (.bool r)) w):=λr h=>⟨⟨r,rfl,h⟩,rfl⟩
 generalize Aq i x=pP at *;by_cases U:i=0
 ·subst U
  by_cases G:x=7596835243318849792
  ·have z:=ar (y.out true ⟨λ_=>⟨λ_=>G,by omega,by omega,by omega⟩,λ_=>rfl⟩)
   have W:(x==7596835243318849792)=true:=by simpa using G
   clear y G;go_enter Tryz.func124,Tryz.ntmps124;go_wp2_with fail;go_ret;exact z.out
  ·have z:=ar (y.out false ⟨(λh=>by cases h),λh=>absurd (h.1 rfl) G⟩)
   have W:(x==7596835243318849792)=false:=by simpa using G
   clear y G;go_enter Tryz.func124,Tryz.ntmps124;go_wp2_with fail;go_ret;exact z.out
 ·have b0:(i==0)=false:=by simpa using U
  by_cases G:i=1
  ·subst G
   by_cases V:x=1
   ·subst V
    have z:=ar (y.out true ⟨λ_=>⟨by omega,λ_=> .inl rfl,by omega,by omega⟩,λ_=>rfl⟩);clear y U;go_enter Tryz.func124,Tryz.ntmps124;go_wp2_with fail;go_ret;exact z.out
   ·have Z:(x==1)=false:=by simpa using V
    by_cases J:x=2
    ·subst J
     have z:=ar (y.out true ⟨λ_=>⟨by omega,λ_=> .inr rfl,by omega,by omega⟩,λ_=>rfl⟩);clear y U V;go_enter Tryz.func124,Tryz.ntmps124;go_wp2_with fail;go_ret;exact z.out
    ·have b3:(x==2)=false:=by simpa using J
     have z:=ar (y.out false ⟨(λh=>by cases h),λh=>by have :=h.2.1 rfl;omega⟩);clear y U V J;go_enter Tryz.func124,Tryz.ntmps124;go_wp2_with fail;go_ret;exact z.out
  ·have W:(i==1)=false:=by simpa using G
   by_cases V:i=2
   ·subst V
    by_cases J:x<=32
    ·have z:=ar (y.out true ⟨λ_=>⟨by omega,by omega,λ_=>J,by omega⟩,λ_=>rfl⟩)
     clear y U G;go_enter Tryz.func124,Tryz.ntmps124;go_wp2_with fail;go_ret;simpa[J] using z.out
    ·have z:=ar (y.out false ⟨(λh=>by cases h),λh=>absurd (h.2.2.1 rfl) J⟩)
     clear y U G;go_enter Tryz.func124,Tryz.ntmps124;go_wp2_with fail;go_ret;simpa[J] using z.out
   ·have Z:(i==2)=false:=by simpa using V
    by_cases J:x=0
    ·subst J
     have z:=ar (y.out true ⟨λ_=>⟨by omega,by omega,by omega,λ_=>rfl⟩,λ_=>rfl⟩);clear y U G V;go_enter Tryz.func124,Tryz.ntmps124;go_wp2_with fail;go_ret;exact z.out
    ·have b3:(x==0)=false:=by simpa using J
     have z:=ar (y.out false ⟨(λh=>by cases h),λh=>absurd (h.2.2.2 (by omega)) J⟩);clear y U G V J;go_enter Tryz.func124,Tryz.ntmps124;go_wp2_with fail;go_ret;exact z.out
structure fG (w:World) (b gp:Nat) (B:List Int) (ps:List (Int×Int)) (T:List (bM×Value)) (own:Nat->List Nat):Prop where
 sh:eF w b gp B ps
 w64:dD (az B ps)
 gots:nE (az B ps) T own
 lt:b<w.heap.size/\gp<w.heap.size
theorem fG.keep(h:fG w b y B ps T own){l:List Nat}(G:ay l w w')(J:∀k∈l,w.heap.size<=k\/(k≠b/\k≠y)):fG w' b y B ps T own:=
 ⟨h.sh.keep G (λz=>by have :=J _ z;have :=h.lt;omega) (λz=>by have :=J _ z;have :=h.lt;omega),h.w64,h.gots,by have :=h.lt;have :=G.size;omega⟩
theorem fG.keep0(h:fG w b y B ps T own)(z:ay [] w w'):fG w' b y B ps T own:=h.keep z (by simp)
def AR (w:World) (X:List Int) (T:List (bM×Value)) (own:Nat->List Nat) (i:Nat) (e:Ending) (w':World):Prop:=
 ∃v g h y r,e= .returned (.tuple #[.agg (aU (nT T i) v),h,.int .i64 r])/\(nT T i).B.length=13/\bz w' v g (nT T i).E/\w.heap.size<=g/\jL w' h y (own i)/\w.heap.size<=y/\ay [] w w'/\
  ((r=0/\(nT T i).F≠0)\/(r=2/\(nT T i).F=0/\dI X (i:Int))\/(r=10/\(nT T i).F=0/\¬dI X (i:Int)))
theorem fG.get(h:fG w b z B ps T own){i:Nat}(U:i<32):
  Calls Tryz.prog 95 #[.pointer (some ⟨b,0,none⟩),.int .i64 (i:Int)] w (AR w (az B ps) T own i):=by
 refine(get_at h.sh h.w64 (i:Int)).mono ?_;rintro e w' ⟨n,v,g,o,y,G,r,rfl,W,hE,hg,Z,sk,V,J⟩;obtain⟨rfl,rfl,h3⟩:=h.gots.get U J;exact⟨v,g,y,G,r,rfl,W,hE,hg,Z,sk,V,h3⟩
theorem fG.below(h:fG w b z B ps T own)(d i:Int):
  Calls Tryz.prog 112 #[.pointer (some ⟨b,0,none⟩),.int .i64 d,.int .i64 i] w (dg w (Reach T d i)):=
 LH (λx wx y=>by
  refine(get_at (h.keep0 y).sh h.w64 x).mono ?_;rintro e w' ⟨n,v,g,o,Z,ga,r,rfl,U,V,W,J,sk,y,G⟩;obtain⟨a,cap,rfl,-,-,-⟩:=J.reads;exact⟨n,v,g,a,_,cap,r,rfl,U,V,W,h.gots.succ G,y⟩) h.gots.tabN d i
theorem Ji{i:Nat}(h:i<3128):Dd B ps (i:Int)=(az B ps).getD i 0:=by
 unfold Dd;rw[aB (by omega),aH]
theorem Pv (X:List Int):k8 X↔(∀i:Nat,i<8->Aq (i:Int) (X.getD i 0))/\∀k:Nat,k<4->X.getD (820+k) 0=0:=by
 unfold k8 Aq;constructor
 ·rintro⟨J,z,y,G,V⟩
  refine⟨λi U=>⟨λe=> ?_,λe=> ?_,λe=> ?_,λe=>G i (by omega) U⟩,λk Z=>V _ (by omega) (by omega)⟩
  ·obtain rfl:i=0:=by omega
   exact J
  ·obtain rfl:i=1:=by omega
   exact z
  ·obtain rfl:i=2:=by omega
   exact y
 ·rintro⟨h,g⟩
  refine⟨(h 0 (by omega)).1 rfl,(h 1 (by omega)).2.1 rfl,(h 2 (by omega)).2.2.1 rfl,λi G W=>(h i W).2.2.2 (by omega),λi z y=> ?_⟩;have :=g (i-820) (by omega);rwa[show 820+(i-820)=i by omega] at this
theorem DI (h:eF w b gp B ps):
  Calls Tryz.prog 82 #[.pointer (some ⟨b,0,none⟩)] w (dg w (k8 (az B ps))):=by
 have HG:Hid (∀i:Nat,i<3128->Calls Tryz.prog 20 #[.pointer (some ⟨b,0,none⟩),.int .i64 (i:Int)] w λe w'=>e= .returned (.int .u64 ((az B ps).getD i 0))/\w=w'):=λi hi=>by
  have :=mO h (i:Int);rwa[Ji hi] at this
 have HP:Hid (∀r:Bool,(r=true↔(∀i:Nat,i<8->Aq (i:Int) ((az B ps).getD i 0))/\∀k:Nat,k<4->(az B ps).getD (820+k) 0=0)->dg w (k8 (az B ps)) (.returned (.bool r)) w):=λr hr=>⟨r,rfl,hr.trans (Pv _).symm,ay.refl _ _⟩
 clear h;generalize az B ps=X at *;generalize k8 X=pS at *;go_enter Tryz.func82,Tryz.ntmps82;go_wp2_with fail;go_loopg [3] 8 (λgh s3 wx=>w=wx/\∃k:Nat,k+gh=8/\s3= .int .i64 (k:Int)/\Hid (∀i:Nat,i<k->Aq (i:Int) (X.getD i 0)))
 case atStart=>exact⟨rfl,0,by omega,rfl,λi hi=>by omega⟩
 case round=>
  obtain⟨rfl,k,hk,rfl,U⟩:=hrel;cases gk with
  |succ gg=>
   have ye:(k:Int)<8:=by omega
   have ez:(0:Int)<=(k:Int):=by omega
   have Z:=ar (HG.out k (by omega));have N7:=ar (DG (k:Int) (X.getD k 0) ez);have G:Hid (Aq (k:Int) (X.getD k 0)->∀i:Nat,i<k+1->Aq (i:Int) (X.getD i 0)):=λz i hi=>by
    by_cases e:i=k
    ·rw[e];exact z
    ·exact U.out i (by omega)
   have J:Hid (¬Aq (k:Int) (X.getD k 0)->¬((∀i:Nat,i<8->Aq (i:Int) (X.getD i 0))/\∀k:Nat,k<4->X.getD (820+k) 0=0)):=λz V=>z (V.1 k (by omega))
   generalize X.getD k 0=x at *;clear U HG;go_wp2_with fail;refine Z.out.mono ?_;rintro e w1 ⟨rfl,rfl⟩;clear Z;go_wp2_with fail;refine(N7.out _).mono ?_;rintro e w1 ⟨⟨r,rfl,hr⟩,rfl⟩;clear N7;cases r
   ·have HF:=ar (HP.out false ⟨(λh=>by cases h),λV=>absurd V (J.out λz=>by cases hr.2 z)⟩)
    clear G J HP hr;go_wp2_with fail;go_ret;exact HF.out
   ·have HN:=ar (G.out (hr.1 rfl))
    clear G J hr;go_wp2_with fail;go_roundg gg;case measure=>omega
    case rel=>exact⟨rfl,k+1,by omega,by go_num,HN.out⟩
  |zero=>
   obtain rfl:k=8:=by omega
   have H8:=ar U.out;clear U hk;go_wp2_with fail;go_loopg [4] 4 (λgh s4 wx=>w=wx/\∃k:Nat,k+gh=4/\s4= .int .i64 ((820+k:Nat):Int)/\Hid (∀i:Nat,i<k->X.getD (820+i) 0=0))
   case atStart=>exact⟨rfl,0,by omega,rfl,λi hi=>by omega⟩
   case round=>
    obtain⟨rfl,k,hk,rfl,U⟩:=hrel;have Z:Hid (k<4->Calls Tryz.prog 20 #[.pointer (some ⟨b,0,none⟩),.int .i64 ((820+k:Nat):Int)] w λe w'=>e= .returned (.int .u64 (X.getD (820+k) 0))/\w=w'):=λac=>HG.out (820+k) (by omega)
    have G:Hid (X.getD (820+k) 0=0->∀i:Nat,i<k+1->X.getD (820+i) 0=0):=λz i hi=>by
     by_cases e:i=k
     ·rw[e];exact z
     ·exact U.out i (by omega)
    have J:Hid (k<4->X.getD (820+k) 0≠0->¬((∀i:Nat,i<8->Aq (i:Int) (X.getD i 0))/\∀k:Nat,k<4->X.getD (820+k) 0=0)):=λh4 z V=>z (V.2 k h4)
    obtain⟨q,hq⟩:∃q,820+k=q:=⟨_,rfl⟩;rw[hq] at Z G J;rw[hq];have HQ:=ar hq;generalize X.getD q 0=x at *;cases gk with
    |succ g2=>
     have aa:(q:Int)<824:=by omega
     have Vp:(0:Int)<=(q:Int):=by omega
     have y:=ar (Z.out (by omega));have W:k<4:=by omega
     clear Z U HG H8 hq;by_cases hx:x=0
     ·subst hx
      have HN:=ar (G.out rfl);clear G J W;go_wp2_with fail;refine y.out.mono ?_;rintro e w1 ⟨rfl,rfl⟩;clear y;go_wp2_with fail;go_roundg g2;case measure=>omega
      case rel=>exact⟨rfl,k+1,by omega,by have :=HQ.out;go_num,HN.out⟩
     ·have hb:(x != 0)=true:=bne_iff_ne.2 hx
      have HF:=ar (HP.out false ⟨(λh=>by cases h),λV=>absurd V (J.out W hx)⟩);clear G J HP hx W;go_wp2_with fail;refine y.out.mono ?_;rintro e w1 ⟨rfl,rfl⟩;clear y;go_wp2_with fail;go_ret;exact HF.out
    |zero=>
     obtain rfl:k=4:=by omega
     have aa:¬(q:Int)<824:=by omega
     have HF:=ar (HP.out true ⟨λ_=>⟨H8.out,U.out⟩,λ_=>rfl⟩);clear G J HP Z U H8 HG hq;go_wp2_with fail;go_ret;exact HF.out
theorem Pw (h:fG w b gp B ps T own):
  Calls Tryz.prog 83 #[.pointer (some ⟨b,0,none⟩)] w (dg w (uk (az B ps) T)):=by
 have HG:Hid (∀J,ay [] w J->∀i:Nat,i<32->Calls Tryz.prog 95 #[.pointer (some ⟨b,0,none⟩),.int .i64 (i:Int)] J (AR J (az B ps) T own i)):=λJ Z i hi=>(h.keep0 Z).get hi
 have HP:Hid (∀(r:Bool) w',(r=true↔∀i:Nat,i<32->dI (az B ps) (i:Int)\/(nT T i).F≠0)->ay [] w w'->dg w (uk (az B ps) T) (.returned (.bool r)) w'):=λr w' hr Z=>⟨r,rfl,hr,Z⟩
 have xf:=eV;obtain⟨W,yJ⟩:∃W,aU cB (.slice none 0 0)=W:=⟨_,rfl⟩;have C7:Hid (W.size=18):=by show _=_;rw[<-yJ];rfl
 rw[yJ] at xf;clear h yJ;generalize uk (az B ps) T=pP at *;generalize az B ps=X at *;go_enter Tryz.func83,Tryz.ntmps83;go_wp2_with fail;go_loopg [7] 32 (λgh s7 J=>∃k:Nat,k+gh=32/\s7= .int .i64 (k:Int)/\Hid (ay [] w J/\∀i:Nat,i<k->dI X (i:Int)\/(nT T i).F≠0))
 case atStart=>exact⟨0,by omega,rfl,ay.refl _ _,λi hi=>by omega⟩
 case round=>
  obtain⟨k,Z,rfl,z⟩:=hrel;cases gk with
  |zero=>
   obtain rfl:k=32:=by omega
   have HF:=ar (HP.out true _ ⟨λ_=>z.out.2,λ_=>rfl⟩ z.out.1);clear z HP HG;go_wp2_with fail;go_ret;exact HF.out
  |succ gg=>
   have ye:(k:Int)<32:=by omega
   have qA:k<32:=by omega
   have UO:=ar (HG.out _ z.out.1 k qA);clear HG;go_wp2_with fail;refine UO.out.mono ?_;rintro e w3 ⟨v,g,va,ga,r,rfl,hB,hE,hg,hO,sk,V,hr⟩;obtain⟨w4,p1,p2,p3⟩:=fF (n:=nT T k) (v:=v) (bm.new w3 W 110) C7.out hB hE.one;have wj:=ar p1;have nK:Hid (ay [] w w4):=(z.out.1.trans' V).trans' (((ay.refl [] w3).alloc _).trans p3 (by intro x hx;rw[au] at hx;omega));have G:=ar hr;have y:=ar z.out.2;clear hB hE hg hO sk V hr p1 p2 p3 z UO;generalize aU (nT T k) v=ZN at *;by_cases U:r=0
   ·subst U
    have HN:Hid (∀i:Nat,i<k+1->dI X (i:Int)\/(nT T i).F≠0):=λi hi=>by
     by_cases e:i=k
     ·rw[e]
      rcases G.out with ⟨-,h⟩|⟨h,-⟩|⟨h,-⟩
      ·exact .inr h
      ·omega
      ·omega
     ·exact y.out i (by omega)
    clear G y;go_wp2_with(with_reducible refine gS 110 wj.out ?_);go_roundg gg;case measure=>omega
    case rel=>exact⟨k+1,by omega,by go_num,nK.out,HN.out⟩
   ·have b0:(r != 0)=true:=bne_iff_ne.2 U
    by_cases h2:r=2
    ·subst h2
     have HN:Hid (∀i:Nat,i<k+1->dI X (i:Int)\/(nT T i).F≠0):=λi hi=>by
      by_cases e:i=k
      ·rw[e]
       rcases G.out with ⟨h,-⟩|⟨-,-,h⟩|⟨h,-⟩
       ·omega
       ·exact .inl h
       ·omega
      ·exact y.out i (by omega)
     clear G y U;go_wp2_with(with_reducible refine gS 110 wj.out ?_);go_roundg gg;case measure=>omega
     case rel=>exact⟨k+1,by omega,by go_num,nK.out,HN.out⟩
    ·have b2:(r != 2)=true:=bne_iff_ne.2 h2
     have HF:Hid (dg w pP (.returned (.bool false)) w4):=HP.out false _ ⟨(λh=>by cases h),λhh=>by
      rcases G.out with ⟨h,-⟩|⟨h,-⟩|⟨-,h3,h4⟩
      ·exact absurd h U
      ·exact absurd h h2
      ·rcases hh k qA with h|h
       ·exact absurd h h4
       ·exact absurd h3 h⟩ nK.out
     clear G y U h2 HP;go_wp2_with(with_reducible refine gS 110 wj.out ?_);go_ret;exact HF.out
theorem DJ (h:fG w b gp B ps T own):
  Calls Tryz.prog 86 #[.pointer (some ⟨b,0,none⟩)] w (dg w (Cx (az B ps) T)):=by
 have xL:Hid (∀z,ay [] w z->∀i:Nat,i<32->Calls Tryz.prog 126 #[.pointer (some ⟨b,0,none⟩),.int .i64 (i:Int)] z λe w'=>e= .returned (.bool (decide (dI (az B ps) (i:Int))))/\ay [] z w'):=λz V i hi=>by
  have :=AP (h.keep0 V).sh (i:Int);rwa[show decide ((0<=(i:Int)/\(i:Int)<32)/\dI (az B ps) (i:Int))=decide (dI (az B ps) (i:Int)) by rw[decide_eq_decide];exact⟨λh=>h.2,λh=>⟨⟨by omega,by omega⟩,h⟩⟩] at this
 have G:Hid (∀z,ay [] w z->∀i:Nat,Calls Tryz.prog 112 #[.pointer (some ⟨b,0,none⟩),.int .i64 0,.int .i64 (i:Int)] z (dg z (Reach T 0 (i:Int)))):=λz V i=>(h.keep0 V).below 0 (i:Int)
 have HP:Hid (∀(r:Bool) w',(r=true↔∀i:Nat,i<32->¬dI (az B ps) (i:Int)->Reach T 0 (i:Int))->ay [] w w'->dg w (Cx (az B ps) T) (.returned (.bool r)) w'):=λr w' hr V=>⟨r,rfl,hr,V⟩
 clear h;generalize Cx (az B ps) T=pP at *;generalize az B ps=X at *;go_enter Tryz.func86,Tryz.ntmps86;go_wp2_with fail;go_loopg [4] 32 (λgh s4 z=>∃k:Nat,k+gh=32/\s4= .int .i64 (k:Int)/\Hid (ay [] w z/\∀i:Nat,i<k->¬dI X (i:Int)->Reach T 0 (i:Int)))
 case atStart=>exact⟨0,by omega,rfl,ay.refl _ _,λi hi=>by omega⟩
 case round=>
  obtain⟨k,V,rfl,J⟩:=hrel;cases gk with
  |zero=>
   obtain rfl:k=32:=by omega
   have HF:=ar (HP.out true _ ⟨λ_=>J.out.2,λ_=>rfl⟩ J.out.1);clear J HP xL G;go_wp2_with fail;go_ret;exact HF.out
  |succ gg=>
   have ye:(k:Int)<32:=by omega
   have qA:k<32:=by omega
   have U:=ar (xL.out _ J.out.1 k qA);have y:=ar J.out.2;have rv:=ar J.out.1;clear J xL;by_cases W:dI X (k:Int)
   ·rw[bj W] at U
    have HN:Hid (∀i:Nat,i<k+1->¬dI X (i:Int)->Reach T 0 (i:Int)):=λi hi Z=>by
     by_cases e:i=k
     ·rw[e] at Z;exact absurd W Z
     ·exact y.out i (by omega) Z
    clear W y G;go_wp2_with fail;refine U.out.mono ?_;rintro e w1 ⟨rfl,dc⟩;have iH:=ar (rv.out.trans' dc);clear dc U rv;go_wp2_with fail;go_roundg gg;case measure=>omega
    case rel=>exact⟨k+1,by omega,by go_num,iH.out,HN.out⟩
   ·rw[aT W] at U
    have UJ:=ar W;clear W;go_wp2_with fail;refine U.out.mono ?_;rintro e w1 ⟨rfl,dc⟩;have iH:=ar (rv.out.trans' dc);have qa:=ar (G.out _ iH.out k);clear dc U rv G;go_wp2_with fail;refine qa.out.mono ?_;rintro e w2 ⟨r,rfl,hr,aa⟩;have fj:=ar (iH.out.trans' aa);have HR:=ar hr;clear aa hr iH qa;cases r
    ·have HF:=ar (HP.out false _ ⟨(λh=>by cases h),λhh=>HR.out.2 (hh k qA UJ.out)⟩ fj.out)
     clear HP HR y UJ;go_wp2_with fail;go_ret;exact HF.out
    ·have HN:Hid (∀i:Nat,i<k+1->¬dI X (i:Int)->Reach T 0 (i:Int)):=λi hi Z=>by
      by_cases e:i=k
      ·rw[e];exact HR.out.1 rfl
      ·exact y.out i (by omega) Z
     clear HP HR y UJ;go_wp2_with fail;go_roundg gg;case measure=>omega
     case rel=>exact⟨k+1,by omega,by go_num,fj.out,HN.out⟩
def cQ (n:Nat) (f:Nat->Nat):List Nat:=(List.range n).map f
theorem mJ (n:Nat)(f:Nat->Nat):(cQ n f).length=n:=by simp[cQ]
theorem LJ (h:j<n):(cQ n f).getD j 0=f j:=by
 unfold cQ;rw[aj,bD,b7 h];rfl
theorem tL (h:j<n):(cW (cQ n f)).toArray[j]? =some (.int .i64 (f j:Int)):=by
 rw[aC,mV (by rw[mJ];exact h),LJ h]
theorem o0 (h:∀j,j<n->f j=f' j):cQ n f=cQ n f':=by
 unfold cQ;exact dQ λj y=>h j (bS.1 y)
theorem LK (f:Nat->Nat){y:Nat}(x:Nat):(cQ n f).set y x=cQ n λq=>if q=y then x else f q:=by
 unfold cQ;apply cr (by simp);intro j G z;have J:j<n:=by simpa using z
 rw[List.getElem_set];simp only[fx,List.getElem_range];by_cases e:y=j
 ·subst e;simp
 ·rw[aA e,aA (λh=>e h.symm)]
theorem Gn{T:Nat}(h:bm w g (cW (cQ n f)).toArray T){j:Nat}(y:j<n):w.cell? ⟨g,j,none⟩=some (.int .i64 (f j:Int)):=by
 rw[h.cell,tL y]
theorem Jj{T:Nat}(z:bm w g (cW (cQ n f)).toArray T)(y:Nat)(h:∀q,q<n->f' q=if q=y then f y+1 else f q){x:Int}(J:x=((f y+1:Nat):Int)):bm (w.setCell ⟨g,y,none⟩ (.int .i64 x)) g (cW (cQ n f')).toArray T:=by
 subst J;have :=z.set y (.int .i64 ((f y+1:Nat):Int));rw[ag] at this;have G:(cW (cQ n f)).set y (.int .i64 ((f y+1:Nat):Int))=cW ((cQ n f).set y (f y+1)):=by simp[cW,List.map_set]
 rw[G,LK,<-o0 h] at this;exact this
theorem Jk (w:World):(zeroValue 175).run Tryz.prog w= .ok (.agg (cW (cQ 32 λ_=>0)).toArray) w:=by kernel_rfl
theorem Px (w:World):(zeroValue 182).run Tryz.prog w= .ok (.agg (cW (cQ 256 λ_=>0)).toArray) w:=by kernel_rfl
theorem Jl:(Tryz.prog.info? 175).map (·.size)=some 32:=by kernel_rfl
theorem Py:(Tryz.prog.info? 182).map (·.size)=some 256:=by kernel_rfl
theorem Tx (l:List Nat):∀u∈cW l,u.oneCell'=true:=by
 intro u h;unfold cW at h;obtain⟨x,-,rfl⟩:=bB.1 h;rfl
theorem Jm{T:Nat}(h:bm w g (cW (cQ 32 f)).toArray T):(loadVar 175 ⟨g,0,none⟩).run Tryz.prog w= .ok (.agg (cW (cQ 32 f)).toArray) w:=
 bT g 0 (cW (cQ 32 f)) Tryz.underlying175 rfl (by rw[fO,mJ];exact Jl) λj y=>by
  rw[h.cell,aX,aC]
theorem Pz{T:Nat}(h:bm w g (cW (cQ 256 f)).toArray T):(loadVar 182 ⟨g,0,none⟩).run Tryz.prog w= .ok (.agg (cW (cQ 256 f)).toArray) w:=
 bT g 0 (cW (cQ 256 f)) Tryz.underlying182 rfl (by rw[fO,mJ];exact Py) λj y=>by
  rw[h.cell,aX,aC]
theorem EY{T:Nat}(h:bm w g (cW (cQ 32 f)).toArray T):
  ∃w',(storeVar 175 ⟨g,0,none⟩ (.agg (cW (cQ 32 f')).toArray)).run Tryz.prog w= .ok () w'/\bm w' g (cW (cQ 32 f')).toArray T/\ay [g] w w':=
 br (P:= Tryz.prog) (ty:= 175) (cs:=cW (cQ 32 f')) (by rw[fO,mJ];exact Jl) h (by rw[bU,fO,fO,mJ,mJ]) (Tx _)
def vQ (T:List (bM×Value)) (own:Nat->List Nat) (i:Nat):List Nat:=own i++cP (nT T i)
theorem oo{n:bM}(G:n.B.length=13)(U:bP n):∀c∈cP n,c≠0/\c<256:=λc y=>by
 unfold cP dB at y;obtain⟨x,h,rfl⟩:=bB.1 y;rw[List.mem_filter] at h;obtain⟨k,J,e⟩:=bR (bA h.1);have z:=ud U G k;rw[aj,aD J,eG,e] at z;have V:x≠0:=by simpa using h.2
 omega
theorem nE.all(h:nE X T own)(i:Nat)(J:i<32):(∀c∈vQ T own i,c≠0/\c<256)/\(vQ T own i).length<=45:=by
 unfold vQ;rcases h.form i with ⟨-,-,y⟩|⟨-,y,G⟩
 ·refine⟨λc z=> ?_,?_⟩
  ·rcases aP.1 z with z|z
   ·exact y.mem c z
   ·exact oo y.len y.right c z
  ·rw[aF]
   have W:=y.ownLen;have V:=Cn y.right;have U:(cP (nT T i)).length<=13:=Ct _ _;omega
 ·rw[(G J).1,y]
  have :cP cB=[]:=by decide
  rw[this];exact⟨λc z=>by simp at z,by simp⟩
theorem fG.all(h:fG w b V B ps T own){i:Nat}(J:i<32):
  Calls Tryz.prog 129 #[.pointer (some ⟨b,0,none⟩),.int .i64 (i:Int)] w λe w'=>∃v g,e= .returned v/\Reads w' v g (cW (vQ T own i))/\ay [] w w'/\(vQ T own i≠[]->w.heap.size<=g):=by
 refine(WB h.sh h.w64 (i:Int)).mono ?_;rintro e w' ⟨v,g,l,rfl,hr,hk,U,hg⟩;have e:l=vQ T own i:=by
  unfold vQ;rcases h.gots.form i with ⟨-,-,z⟩|⟨-,z,G⟩
  ·rcases U with ⟨n,o,y,rfl⟩|⟨y,-⟩
   ·obtain⟨W,Z⟩:=z.uniq y
    rw[W,Z]
   ·exact absurd z (y _ _)
  ·rcases U with ⟨n,o,y,-⟩|⟨-,rfl⟩
   ·exact absurd y ((G J).2 _ _)
   ·rw[(G J).1,z]
    rfl
 subst e;exact⟨v,g,rfl,hr,hk,hg⟩
theorem Jn {T:List (bM×Value)}{own:Nat->List Nat}(h:∀i,i<32->(vQ T own i).length<=45):∀k b,k<=32->iB T own k b<=45*k
 |0,_,_=>et _
 |k+1,b,hk=>by
  have G:=Jn h k b (by omega);have y:=h k (by omega);have z:(own k++cP (nT T k)).count b<=_:=List.count_le_length;unfold vQ at y;show iB T own k b+_<=_;omega
theorem Ar{l:List Nat}(y:j<l.length)(b:Nat):(l.take (j+1)).count b=if b=l.getD j 0 then (l.take j).count b+1 else (l.take j).count b:=by
 rw[bt y,eK,List.count_singleton];have :l.getD j 0=l[j]:=by rw[aj,aD y];rfl
 rw[this];by_cases e:b=l[j]
 ·subst e;simp
 ·rw[aA e]
  simp;exact λh=>e h.symm
theorem DK (h:fG w b gp B ps T own):
  Calls Tryz.prog 87 #[.pointer (some ⟨b,0,none⟩)] w (dg w (M9 (az B ps) T own)):=by
 have mC:Hid (∀U,ay [] w U->∀i:Nat,i<32->Calls Tryz.prog 129 #[.pointer (some ⟨b,0,none⟩),.int .i64 (i:Int)] U λe w'=>∃v g,e= .returned v/\Reads w' v g (cW (vQ T own i))/\ay [] U w'/\(vQ T own i≠[]->U.heap.size<=g)):=λU hk i hi=>(h.keep0 hk).all hi
 have af:Hid (∀U,ay [] w U->∀c:Nat,c<256->Calls Tryz.prog 130 #[.pointer (some ⟨b,0,none⟩),.int .i64 (c:Int)] U λe w'=>e= .returned (.bool (cT (az B ps) c))/\U=w'):=λU hk c hc=>by
  have :=Pq (h.keep0 hk).sh h.w64 (c:Int);rwa[Tv,aB (sU.2 ⟨by omega,by omega⟩),aH] at this
 have ah:Hid (∀i,i<32->(∀c∈vQ T own i,c≠0/\c<256)/\(vQ T own i).length<=45):=λi hi=>h.gots.all i hi
 have ak:Hid (∀k c,k<=32->iB T own k c<=45*k):=Jn λi hi=>(h.gots.all i hi).2
 have Xy:Hid (∀k c,iB T own (k+1) c=iB T own k c+(vQ T own k).count c):=λk c=>rfl
 have Z:Hid (∀(r:Bool) w',(r=true↔∀b:Nat,b<256->iB T own 32 b<=1/\(cT (az B ps) b=true↔iB T own 32 b=1))->ay [] w w'->dg w (M9 (az B ps) T own) (.returned (.bool r)) w'):=λr w' hr hk=>⟨r,rfl,hr,hk⟩
 have aR:=Px;have nu:Hid (bm (w.alloc (.cells (cW (cQ 256 λ_=>0)).toArray 182)) w.heap.size (cW (cQ 256 λc=>iB T own 0 c)).toArray 182):=bm.new w _ _;have fS:Hid (ay [] w (w.alloc (.cells (cW (cQ 256 λ_=>0)).toArray 182))):=(ay.refl [] w).alloc _;clear h;generalize M9 (az B ps) T own=pP at *;generalize az B ps=X at *;generalize iB T own=G at *;generalize vQ T own=V at *;generalize (cW (cQ 256 λ_=>0)).toArray=Z0 at *;go_enter Tryz.func87,Tryz.ntmps87;go_wp2_with fail;go_loopg [9] 32 (λgh s9 U=>∃k:Nat,k+gh=32/\s9= .int .i64 (k:Int)/\Hid (ay [] w U/\bm U w.heap.size (cW (cQ 256 λc=>G k c)).toArray 182))
 case atStart=>exact⟨0,by omega,rfl,fS.out,nu.out⟩
 case round=>
  clear nu fS;obtain⟨k,hk,rfl,J⟩:=hrel;cases gk with
  |succ gg=>
   have ye:(k:Int)<32:=by omega
   have qA:k<32:=by omega
   have aw:=ar (mC.out _ J.out.1 k qA);obtain⟨aF,aG⟩:=ah.out k qA;have av:=ar aF;have XQ:=ar (λc=>ak.out k c (by omega));have aM:=J.out.2.lt;clear aF mC ah af Z;go_wp2_with fail;refine aw.out.mono ?_;rintro e w3 ⟨v,g,rfl,hr,ag,hg⟩;obtain⟨a,cap,rfl,nz,aK,MD⟩:=hr;rw[fO] at nz MD ⊢;have aC:Hid (V k≠[]->g≠w.heap.size):=λh0=>by have :=hg h0;omega
   have UQ:Hid (∀j,j<(V k).length->∃off,a=some ⟨g,off,none⟩/\g<w3.heap.size/\w3.cell? ⟨g,off+j,none⟩=some (.int .i64 (((V k).getD j 0:Nat):Int))/\g≠w.heap.size):=λj hj=>by
    have ax:V k≠[]:=λe=>by rw[e] at hj;simp at hj
    obtain⟨h1,off,h2,h3⟩:=MD (λe=>ax (by unfold cW at e;simpa using e));exact⟨off,h2,h1,by rw[h3 j hj,mV hj],aC.out ax⟩
   have qb:Hid (bm w3 w.heap.size (cW (cQ 256 λc=>G k c+((V k).take 0).count c)).toArray 182):=J.out.2.keep ag (by simp);have lS:=ar (J.out.1.trans' ag);have ae:=ar (λj hj=> @Ar j (V k) hj);have W:Hid (∀U,bm U w.heap.size (cW (cQ 256 λc=>G k c+((V k).take (V k).length).count c)).toArray 182->bm U w.heap.size (cW (cQ 256 λc=>G (k+1) c)).toArray 182):=λU hb=>by
    rw[o0 (λc _=>Xy.out k c)];rwa[fz] at hb
   have ap:Hid (∀j c,((V k).take j).count c<=45):=λj c=>cu List.count_le_length (by rw[aI];omega)
   have ac:Hid (∀j,j<(V k).length->(V k).getD j 0<256):=λj hj=>(av.out _ (by rw[aj,aD hj];exact bp hj)).2
   clear ag hg MD nz aK J aw aC av aM;obtain⟨m,hm⟩:∃m,(V k).length=m:=⟨_,rfl⟩;rw[hm] at UQ ae W ac aG;rw[hm];clear hm;generalize V k=L at *;go_wp2_with fail;go_loopg [16] m (λgh s16 U=>∃j:Nat,j+gh=m/\s16= .int .i64 (j:Int)/\Hid (ay [w.heap.size] w3 U/\bm U w.heap.size (cW (cQ 256 λc=>G k c+(L.take j).count c)).toArray 182))
   case atStart=>exact⟨0,by omega,rfl,ay.refl _ _,qb.out⟩
   case round=>
    clear qb;obtain⟨j,hj,rfl,J⟩:=hrel;cases gk with
    |zero=>
     obtain rfl:j=m:=by omega
     have HF:Hid (ay [] w wr/\bm wr w.heap.size (cW (cQ 256 λc=>G (k+1) c)).toArray 182):=⟨lS.out.trans J.out.1 (by intro x hx;rw[au] at hx;omega),W.out _ J.out.2⟩;clear J W UQ ae ap ac;go_wp2_with fail;go_roundg gg;case measure=>omega
     case rel=>exact⟨k+1,by omega,by go_num,HF.out⟩
    |succ g2=>
     have LF:j<m:=by omega
     have KG:(j:Int)<(m:Int):=by omega
     have zi:(0:Int)<=(j:Int):=by omega
     obtain⟨off,rfl,se,d1,UM⟩:=UQ.out j LF;have c1:wr.cell? ⟨g,off+j,none⟩=some (.int .i64 ((L.getD j 0:Nat):Int)):=(aL (a:=⟨g,off+j,none⟩) (J.out.1.block g se (by simpa using UM))).trans d1;have hy:=ac.out j LF;have aq:=λc=>ae.out j (by omega) c
     have rO:=XQ.out (L.getD j 0);have aO:=ap.out j (L.getD j 0);generalize L.getD j 0=y at *;have c2:=Gn J.out.2 (j:=y) hy;obtain⟨z,hz⟩:∃z,G k y+(L.take j).count y=z:=⟨_,rfl⟩;rw[hz] at c2;have aQ:z<=1600:=by omega
     have GR:Hid (∀x:Int,x=((z+1:Nat):Int)->bm (wr.setCell ⟨w.heap.size,y,none⟩ (.int .i64 x)) w.heap.size (cW (cQ 256 λc=>G k c+(L.take (j+1)).count c)).toArray 182):=λx hx=>Jj J.out.2 y (λq hq=>by
      rw[aq q];by_cases e:q=y
      ·subst e;rw[aB rfl,aB rfl];omega
      ·rw[aA e,aA e]) (by rw[hx,hz])
     have f2:=J.out.2.frozen y;have pM:=ar J.out.1;have aP:(0:Int)<=(y:Int):=by omega
     have aS:(y:Int)<256:=by omega
     clear J d1 aq hz rO aO UQ ae ap ac;go_wp2_with fail;go_roundg g2;case measure=>omega
     case rel=>exact⟨j+1,by omega,by go_num,pM.out.setCell (.inl (by simp)) _,GR.out _ (by go_num)⟩
  |zero=>
   obtain rfl:k=32:=by omega
   have pM:=ar J.out.1;have HL:Hid ((loadVar 182 ⟨w.heap.size,0,none⟩).run Tryz.prog wr= .ok (.agg (cW (cQ 256 λc=>G 32 c)).toArray) wr):=Pz J.out.2;have HZ:Hid (∀c,c<256->(cW (cQ 256 λc=>G 32 c)).toArray[c]? =some (.int .i64 (G 32 c:Int))):=λc hc=>tL hc
   have ai:=ar (λc=>ak.out 32 c (by omega));clear J mC ah ak Xy hk;generalize (cW (cQ 256 λc=>G 32 c)).toArray=ZC at *;go_wp2_with(with_reducible refine gL 182 HL.out ?_);go_loopg [28] 256 (λgh s28 U=>wr=U/\∃c:Nat,c+gh=256/\s28= .int .i64 (c:Int)/\Hid (∀b:Nat,b<c->G 32 b<=1/\(cT X b=true↔G 32 b=1)))
   case atStart=>exact⟨rfl,0,by omega,rfl,λi hi=>by omega⟩
   case round=>
    obtain⟨rfl,c,hc,rfl,J⟩:=hrel;cases gk with
    |zero=>
     obtain rfl:c=256:=by omega
     have HF:=ar (Z.out true _ ⟨λ_=>J.out,λ_=>rfl⟩ pM.out);clear J Z HZ ai af HL;go_wp2_with fail;go_ret;exact HF.out
    |succ g2=>
     have tq:c<256:=by omega
     have Mz:(c:Int)<256:=by omega
     have zW:=jx 182 3 256 .i64 ZC c _ Tryz.underlying182 Tryz.underlying3 lz tq (HZ.out c tq);have aa:=ar (af.out _ pM.out c tq);have hm:=ai.out c;have W:Hid ((G 32 c<=1/\(cT X c=true↔G 32 c=1))->∀b:Nat,b<c+1->G 32 b<=1/\(cT X b=true↔G 32 b=1)):=λhh b hb=>by
      by_cases e:b=c
      ·rw[e];exact hh
      ·exact J.out b (by omega)
     have jr:Hid (¬(G 32 c<=1/\(cT X c=true↔G 32 c=1))->¬∀b:Nat,b<256->G 32 b<=1/\(cT X b=true↔G 32 b=1)):=λhh ha=>hh (ha c tq)
     generalize cT X c=u at *;generalize G 32 c=z at *;clear J HZ ai af HL;by_cases h1:1<z
     ·have aJ:(1:Int)<(z:Int):=by omega
      have HF:=ar (Z.out false _ ⟨(λh=>by cases h),λhh=>absurd hh (jr.out λh=>by omega)⟩ pM.out);clear W jr Z h1;go_wp2_with fail;go_ret;exact HF.out
     ·have aJ:¬(1:Int)<(z:Int):=by omega
      by_cases hz:z=1
      ·subst hz
       cases u
       ·have HF:=ar (Z.out false _ ⟨(λh=>by cases h),λhh=>absurd hh (jr.out λh=>by simp at h)⟩ pM.out)
        clear W jr Z h1;go_wp2_with fail;refine aa.out.mono ?_;rintro e w1 ⟨rfl,rfl⟩;go_wp2_with fail;go_ret;exact HF.out
       ·have HN:=ar (W.out ⟨by omega,by simp⟩)
        clear W jr Z h1;go_wp2_with fail;refine aa.out.mono ?_;rintro e w1 ⟨rfl,rfl⟩;go_wp2_with fail;go_roundg g2;case measure=>omega
        case rel=>exact⟨rfl,c+1,by omega,by go_num,HN.out⟩
      ·obtain rfl:z=0:=by omega
       cases u
       ·have HN:=ar (W.out ⟨by omega,by simp⟩)
        clear W jr Z h1 hz;go_wp2_with fail;refine aa.out.mono ?_;rintro e w1 ⟨rfl,rfl⟩;go_wp2_with fail;go_roundg g2;case measure=>omega
        case rel=>exact⟨rfl,c+1,by omega,by go_num,HN.out⟩
       ·have HF:=ar (Z.out false _ ⟨(λh=>by cases h),λhh=>absurd hh (jr.out λh=>by simp at h)⟩ pM.out)
        clear W jr Z h1 hz;go_wp2_with fail;refine aa.out.mono ?_;rintro e w1 ⟨rfl,rfl⟩;go_wp2_with fail;go_ret;exact HF.out
end Go.Proofs.YtcecbdeamjigiaaGreatDoor

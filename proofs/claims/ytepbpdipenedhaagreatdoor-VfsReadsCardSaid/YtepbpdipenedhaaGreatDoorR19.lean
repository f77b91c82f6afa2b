/- Lemmas. -/
import Derived.Test.YtepbpdipenedhaaGreatDoorR18
set_option maxHeartbeats 4000000
set_option maxRecDepth 100000
namespace Go.Proofs.YtepbpdipenedhaaGreatDoor
open Go.Proofs.Tryz
open Go.RowKit
variable{B X l:List Int}{W b cap g gp j k n z:Nat}{w w':World}{a:Option Addr}{T:List (bP×Value)}{ps:List (Int×Int)}{own:Nat->List Nat}{f f':Nat->Nat}
theorem Rt (h:j<l.length):(zs l)[j]? =some (.int .i64 (l.getD j 0)):=fR h
def I6 (w:World) (h:Prop) (e:Ending) (w':World):Prop:=∃r:Int,e= .returned (.int .i64 r)/\w=w'/\(0<=r↔h)
theorem XO (x:Int)(hR:Reads w (.slice a l.length cap) g (zs l)):
  Calls prog 184 #[.slice a l.length cap,.int .i64 x] w (I6 w (x∈l)):=by
 have W:Hid (∀j,j<l.length->∃off,a=some ⟨g,off,none⟩/\w.cell? ⟨g,off+j,none⟩=some (.int .i64 (l.getD j 0))):=λj G=>by
  obtain⟨a',V,hv,-,-,h3⟩:=hR
  injection hv with e1 e2 e3
  have ae:zs l≠[]:=λe=>by have :=cB List.length e;rw[eF,b8] at this;omega
  obtain⟨-,off,h5,h6⟩:=h3 ae;exact⟨off,by rw[e1];exact h5,by rw[h6 j (by rw[eF];exact G),Rt G]⟩
 have aa:l.length<=maxLen:=by
  obtain⟨a',V,hv,h1,h2,-⟩:=hR;rw[eF] at h1;omega
 have HM:Hid (∀j,j<l.length->l.getD j 0=x->x∈l):=λj G e=>by
  rw[<-e,aj,aG G];exact bA G
 have HN:Hid ((∀j,j<l.length->l.getD j 0≠x)->¬x∈l):=λh hm=>by
  obtain⟨j,G,e⟩:=cj hm;exact h j G (by rw[aj,aG G];exact e)
 unfold maxLen at aa;clear hR;generalize hm:l.length=m at *;clear hm;have z:Hid (∀r:Int,(0<=r↔x∈l)->I6 w (x∈l) (.returned (.int .i64 r)) w):=λr h=>⟨r,rfl,rfl,h⟩
 generalize ac:(x∈l)=px at *;clear ac;go_enter func184,ntmps184;go_wp2_with fail;go_loopg [8] m (λgh s8 wx=>∃k:Nat,k+gh=m/\s8= .int .i64 (k:Int)/\w=wx/\Hid (∀j,j<k->l.getD j 0≠x))
 case atStart=>exact⟨0,by omega,rfl,rfl,λj G=>by omega⟩
 case round=>
  obtain⟨k,hk,rfl,rfl,U⟩:=hrel;cases gk with
  |zero=>
   obtain rfl:k=m:=by omega
   have HF:=au (z.out (-1) ⟨λh=>by omega,λh=>absurd h (HN.out U.out)⟩);clear W HM HN U z;go_wp2_with fail;go_ret;exact HF.out
  |succ gg=>
   have af:(k:Int)<(m:Int):=by omega
   have dt:(0:Int)<=(k:Int):=by omega
   have Iz:k<m:=by omega
   obtain⟨off,rfl,c0⟩:=W.out k Iz;by_cases J:l.getD k 0=x
   ·have HF:=au (z.out (k:Int) ⟨λ_=>HM.out k Iz J,λ_=>dt⟩)
    have hb:(x==l.getD k 0)=true:=by rw[J];simp
    clear W HM HN U z J;generalize l.getD k 0=y at *;go_wp2_with fail;go_ret;exact HF.out
   ·have mU:Hid (∀j,j<k+1->l.getD j 0≠x):=λj G=>by
     by_cases e:j=k
     ·rw[e];exact J
     ·exact U.out j (by omega)
    have hb:(x==l.getD k 0)=false:=by rw[cQ];exact λe=>J e.symm
    clear W HM HN U z J;generalize l.getD k 0=y at *;go_wp2_with fail;go_roundg gg;case measure=>omega
    case rel=>exact⟨k+1,by omega,by go_num,rfl,mU.out⟩
theorem ML (x:Int)(h:Reads w (.slice a l.length cap) g (zs l)):
  Calls prog 157 #[.slice a l.length cap,.int .i64 x] w λe w'=>e= .returned (.bool (decide (x∈l)))/\w=w':=by
 have J:=au (XO x h);clear h;generalize l.length=m at *;go_enter func157,ntmps157;go_wp2_with fail;refine J.out.mono ?_;rintro e w' ⟨r,rfl,rfl,z⟩;have G:=au z;clear z;go_wp2_with fail;go_ret;refine⟨?_,rfl⟩;show Ending.returned (.bool (decide (0<=r)))=_;rw[decide_eq_decide.2 G.out]
theorem Km{P:Program}(ah:Nat)(t ty e:TypeId)(i:TypeInfo)(z:Value)(size bytes:Nat)(ht:P.underlying t=some (.slice e))(hi:P.info? e=some i)(hz:i.zero=some z)
  (ae:i.size=size) (ar:i.bytes=bytes) (ax:0<size) (g n cap:Nat) (xs:List Value) (J:w.ownsRow ah e size (.slice (some ⟨g,0,none⟩) n cap) n xs)
  (a:Addr) (m c:Nat) (G:List Value) (hl:G.length=m*size) (W:∀j u,G[j]? =some u->w.cell? (a.add j)=some u) (h1:∀u∈G,u.oneCell'=true)
  (aj:n+m<=maxLen) (aa:(n+m)*bytes<=140737488355328) {v':Value} {w':World} (hr:(Builtin.append_ #[t,t] ty #[.slice (some ⟨g,0,none⟩) n cap,.slice (some a) m c]).run P w= .ok v' w'):
  v'.ownBlock=some g\/v'.ownBlock=some w.heap.size:=by
 subst ae;subst ar;have ai:n+m<=9223372036854775807:=by simp only[maxLen] at aj;omega
 have ac:∀j u,xs[j]? =some u->w.cell? ((⟨g,0,none⟩:Addr).add j)=some u:=J.cells (g:=g) rfl;rcases J.2 with ⟨h,-⟩|⟨g',av,af,hv,aA,hg,ay,az,au,ak⟩
 ·cases h
 ·cases hv
  by_cases V:n+m<=cap
  ·have ag:n*i.size+G.length<=af.size:=by rw[hl,au,<-Nat.add_mul];exact Nat.mul_le_mul_right _ V
   have U:=run_append_room (P:=P) w t ty e i ht hi g n cap af hg a m c G hl W h1 V ag;rw[hr] at U
   injection U with e1 e2
   rw[e1];exact .inl rfl
  ·have U:=run_append_grow (P:=P) w t ty e i z ht hi hz ⟨g,0,none⟩ n cap xs J.1 ac a m c G hl W (by omega) (by omega) (growslice_fits (by omega) aa)
   rw[hr] at U
   injection U with e1 e2
   rw[e1];exact .inr rfl
def dh (w:World) (p:Prop) (e:Ending) (w':World):Prop:=∃r:Bool,e= .returned (.bool r)/\(r=true↔p)/\az [] w w'
theorem Di (w:World):(zeroValue 87).run prog w= .ok (.agg #[.string ⟨#[]⟩,.int .i64 0]) w:=by kernel_rfl
theorem A7{T:Nat}{h:Array Value}(s:ByteArray)(y:Int)(J:bh w g h T)(G:h.size=2):
  ∃w',(storeVar 87 ⟨g,0,none⟩ (.agg #[.string s,.int .i64 y])).run prog w= .ok () w'/\bh w' g #[.string s,.int .i64 y] T/\az [g] w w':=
 bB (P:= prog) (ty:= 87) (cs:=[.string s,.int .i64 y]) Fb J (by rw[G];rfl) (by intro u z;simp only[aP,aM,bz] at z;rcases z with rfl|rfl<;>rfl)
theorem PQ (HG:Hid (∀x wx,az [] w wx->Calls prog 97 #[.pointer (some ⟨b,0,none⟩),.int .i64 x] wx λe w'=>∃n v g a c cap r,e= .returned (.tuple #[.agg (aR n v),.slice a c cap,.int .i64 r])/\n.B.length=13/\bC w' v g n.E/\wx.heap.size<=g/\n.E.map (·.2)=pd T x/\az [] wx w'))(hN:TY T)(d i:Int):
  Calls prog 114 #[.pointer (some ⟨b,0,none⟩),.int .i64 d,.int .i64 i] w (dh w (Reach T d i)):=by
 have uL:Hid (∀R k,qW T d i R k->R.length<=33):=λR k hb=>hb.len hN
 obtain⟨i0,hi,aM,bl,aN⟩:=cP Tryz.info_int;have aJ:Hid ((w.alloc (.cells #[.int .i64 d] 3)).ownsRow w.heap.size 3 1 (.slice (some ⟨w.heap.size,0,none⟩) 1 1) 1 (zs [d])):=
  ⟨rfl,.inr ⟨w.heap.size,1,#[.int .i64 d],rfl,aI _,bh.new w _ _,aI _,by unfold maxLen;omega,rfl,rfl⟩⟩
 have oK:=au (qW.start T d i);have Vx:Hid (∀R k,qW T d i R k->k<=R.length):=λR k U=>U.le
 have Kn:Hid (∀R k x,qW T d i R k->R[k]? =some x->x=i->Reach T d i):=λR k x U h2 h3=>U.found h2 h3
 have PR:Hid (∀R k,qW T d i R k->k=R.length->¬Reach T d i):=λR k U h2=>U.ended h2
 have aH:Hid (∀R k x y,qW T d i R k->R[k]? =some x->y∈pd T x->y∉R->qW T d i (R++[y]) k/\(R++[y])[k]? =some x):=λR k x y U h2 h3 h4=>U.more h2 h3 h4
 have mI:Hid (∀R k x,qW T d i R k->R[k]? =some x->x≠i->(∀y∈pd T x,y∈R)->qW T d i R (k+1)):=λR k x U h2 h3 h4=>U.next h2 h3 h4
 have bb:Hid (∀r w',(r=true↔Reach T d i)->az [] w w'->dh w (Reach T d i) (.returned (.bool r)) w'):=λr w' U h2=>⟨r,rfl,U,h2⟩
 have bN:=eA;obtain⟨Z0,Cn⟩:∃Z0,aR cr (.slice none 0 0)=Z0:=⟨_,rfl⟩;have GA:Hid (Z0.size=18):=by show _=_;rw[<-Cn];rfl
 rw[Cn] at bN;have bQ:=Di;clear Cn hN;generalize bv:Reach T d i=pR at *;generalize bD:qW T d i=bI at *;generalize pd T=sL at *;clear bv bD;go_enter func114,ntmps114;go_wp2_with fail;go_loopg [7,8] 33 (λgh s7 s8 wz=>∃(R:List Int) (k:Nat),s8= .int .i64 (k:Int)/\k+gh=33/\Hid (bI R k/\wz.ownsRow w.heap.size 3 1 s7 R.length (zs R)/\az [] w wz/\R≠[]))
 case atStart=>exact⟨[d],0,rfl,rfl,oK.out,aJ.out,(az.refl _ _).alloc _,by simp⟩
 case round=>
  clear aJ oK;obtain⟨R,k,rfl,hk,J⟩:=hrel;obtain⟨gR,ho,aF⟩:=fp.of_row J.out.2.1;have af:R.length≠0:=λe=>J.out.2.2.2 (bg e)
  obtain⟨aW,⟨cR,rfl,aK,bp⟩,V,aL⟩:=ho.cell af;have bM:=uL.out R k J.out.1;have PS:=(aF af).1;by_cases ag:k<R.length
  ·obtain⟨gg,rfl⟩:∃gg,gk=gg+1:=⟨gk-1,by omega⟩
   have hx:R[k]? =some (R.getD k 0):=by rw[aj,aG ag];rfl
   have c0:wr.cell? ⟨gR,k,none⟩=some (.int .i64 (R.getD k 0)):=by rw[V k (by omega),Rt ag]
   have HX:=au hx;clear hx V aL ho aF;generalize R.getD k 0=x at *;by_cases Mc:x=i
   ·have yU:=au (Kn.out R k x J.out.1 HX.out Mc)
    have iZ:=au J.out.2.2.1;have bL:(x==i)=true:=by rw[Mc];simp
    have Bp:(k:Int)<(R.length:Int):=by omega
    have dt:(0:Int)<=(k:Int):=by omega
    clear J Mc Kn PR aH mI HG uL;generalize R.length=q at *;go_wp2_with fail;go_ret;exact bb.out true _ ⟨λ_=>yU.out,λ_=>rfl⟩ iZ.out
   ·have bL:(x==i)=false:=by simpa using Mc
    have Bp:(k:Int)<(R.length:Int):=by omega
    have dt:(0:Int)<=(k:Int):=by omega
    have aP:=au (HG.out x wr J.out.2.2.1);have bz:=au Mc;clear Mc;obtain⟨q,hq⟩:∃q,R.length=q:=⟨_,rfl⟩;have HQ:=au hq;rw[hq] at Bp ag bM af aK;rw[hq];clear hq;go_wp2_with fail;refine aP.out.mono ?_;rintro e w3 ⟨n,v,g,a,c,cap,r,rfl,hB,hE,hg,bk,ai⟩;have aY:=J.out.2.2.1;have bF:=ai.size;obtain⟨an,cn,hv,bT,W4,-⟩:=hE.open;subst hv;obtain⟨w4,p1,p2,p3⟩:=dc (n:=n) (v:= .slice an n.E.length cn) (bh.new w3 Z0 111) GA.out hB rfl;have ac:az [] w3 w4:=((az.refl [] w3).alloc _).trans p3 (by intro x hx;rw[ay] at hx;omega);have br:=ac.size;have bo:w4.cell? ⟨w3.heap.size,17,none⟩=some (.slice an n.E.length cn):=by rw[p2.cell];exact(iX _ hB).f5
    have vB:=au p1;have aa:=J.out.2.1;rw[HQ.out] at aa;have ma:=au (dB (dB aa ai (by simp)) ac (by simp));have bc:=au (hE.keep ac (by simp));have pW:=au ((aY.trans' ai).trans' ac);have Tn:Hid (gR<wr.heap.size/\wr.heap.size<=g/\gR<w4.heap.size/\w.heap.size<=gR):=⟨aW,hg,by omega,PS⟩;have N6:=au bk;have aU:=au J.out.1;have bJ:n.E.length<=9223372036854775807:=by unfold maxLen at W4;omega
    clear p1 p2 p3 ai ac hE hg bk J aY bF br aa aP aW PS W4 bp aK;generalize aR n (.slice an n.E.length cn)=ZN at *;obtain⟨mE,hm⟩:∃mE,n.E.length=mE:=⟨_,rfl⟩;have ah:=au hm;rw[hm] at bo bc bJ;clear hm;go_wp2_with(with_reducible refine gS 111 vB.out ?_);clear bo;go_loopg [7,41] mE (λgh s7 s41 wz=>∃(G:List Int) (j:Nat),s41= .int .i64 (j:Int)/\j+gh=mE/\Hid (bI G k/\G[k]? =some x/\(∀t,t<j->jl n.E t∈G)/\wz.ownsRow w.heap.size 3 1 s7 G.length (zs G)/\az [] w wz/\az [gR] w4 wz/\(∀kk,s7.ownBlock=some kk->kk=gR\/w4.heap.size<=kk)/\G≠[]))
    case atStart=>exact⟨R,0,rfl,by omega,aU.out,HX.out,(λt ht=>by omega),(by rw[HQ.out];exact ma.out),pW.out,az.refl _ _,(λkk e=>by simp[Value.ownBlock] at e;exact .inl e.symm),(λe=>af (by rw[<-HQ.out,e];rfl))⟩
    case round=>
     clear ma aU ag Bp af;obtain⟨G,j,rfl,hj,J⟩:=hrel;obtain⟨q1,q2,q3,q4,q5,q6,q7,q8⟩:=J.out;have bO:=uL.out _ _ q1;cases gk with
     |zero=>
      obtain rfl:j=mE:=by omega
      have uN:Hid (bI G (k+1)):=mI.out G k x q1 q2 bz.out (λy hy=>by
       rw[<-N6.out] at hy;obtain⟨t,ht,e⟩:=cj hy;rw[bS] at ht;have :=q3 t (by rw[<-ah.out];exact ht);rw[ig] at e;rwa[show jl n.E t=y by rw[<-e];simp[jl,ht]] at this)
      have Fm:=au (And.intro q4 (And.intro q5 q8));clear J q1 q2 q3 q4 q5 q6 q7 q8;go_wp2_with fail;go_roundg gg;case measure=>omega
      case rel=>exact⟨G,k+1,by go_num,by omega,uN.out,Fm.out.1,Fm.out.2.1,Fm.out.2.2⟩
     |succ g2=>
      have ak:j<mE:=by omega
      have OL:(j:Int)<(mE:Int):=by omega
      have BI:(0:Int)<=(j:Int):=by omega
      obtain⟨Zv,G8,bt⟩:=fp.of_row q4;have bE:G.length≠0:=λe=>q8 (bg e)
      obtain⟨OV,⟨av,bB,bR,bf⟩,-,-⟩:=G8.cell bE;subst bB;have aB:=bc.out;rw[<-ah.out] at aB ak;obtain⟨ax,cx,bK,OO,bG,aZ⟩:=aB.open
      injection bK with e1 e2 e3
      subst e1 e3;obtain⟨aC,off,rfl,d1,d2⟩:=aZ.out j ak;rw[ah.out] at ak;have Fv:g∉[gR]:=by have :=Tn.out;rw[ay];omega
      have ae:Hid ((loadVar 87 ⟨g,off+j*2,none⟩).run prog wr= .ok (.agg #[.string (eU n.E j),.int .i64 (jl n.E j)]) wr):=
       zK ((aO (w:=w4) (a:=⟨g,off+j*2,none⟩) (q6.block g aC Fv)).trans d1) ((aO (w:=w4) (a:=⟨g,off+j*2+1,none⟩) (q6.block g aC Fv)).trans d2)
      have aQ:jl n.E j∈sL x:=by
       rw[<-N6.out];have U:j<n.E.length:=by rw[ah.out];exact ak
       refine bH.2 ⟨n.E[j],bA U,?_⟩;simp[jl,U]
      obtain⟨w6,p1,p2,p3⟩:=A7 (eU n.E j) (jl n.E j) (bh.new wr #[.string ⟨#[]⟩,.int .i64 0] 87) rfl;have kG:az [] wr w6:=((az.refl [] wr).alloc _).trans p3 (by intro x hx;rw[ay] at hx;omega);have c1:w6.cell? ⟨wr.heap.size,1,none⟩=some (.int .i64 (jl n.E j)):=by rw[p2.cell];rfl
      have DG:=au p1;have bj:=dB q4 kG (by simp);have bw:Hid (Reads w6 (.slice (some ⟨Zv,0,none⟩) G.length av) Zv (zs G)):=G8.reads.keep kG (by simp);have N9:=au (ML (jl n.E j) bw.out);have aA:=au bj;have bu:=kG.size;have GF:Hid (bI G k/\G[k]? =some x/\(∀t,t<j->jl n.E t∈G)/\az [] w w6/\az [gR] w4 w6/\G≠[]/\(Zv=gR\/w4.heap.size<=Zv)/\w4.heap.size<=w6.heap.size/\Zv<w6.heap.size):=⟨q1,q2,q3,q5.trans' kG,q6.trans kG (by simp),q8,q7 _ rfl,by have :=q6.size;omega,by omega⟩;have aV:=au aQ;clear p1 p2 p3 kG q1 q2 q3 q4 q5 q6 q7 q8 bj aQ d1 d2 aC Fv aZ OO bG aB J G8 bt OV bf bu;obtain⟨y,hy⟩:∃y,jl n.E j=y:=⟨_,rfl⟩;have aT:=au hy;rw[hy] at ae DG c1 N9 aV;clear hy;obtain⟨sN,aX⟩:∃sN,eU n.E j=sN:=⟨_,rfl⟩;rw[aX] at ae DG;clear aX;go_wp2_with(first|(with_reducible refine gL 87 ae.out ?_)|(with_reducible refine gS 87 DG.out ?_));refine N9.out.mono ?_;rintro e w' ⟨rfl,rfl⟩;by_cases W:y∈G
      ·have hd:decide (y∈G)=true:=bq W
       rw[hd];have D3:=au W;clear hd W N9 ae DG;go_wp2_with fail;go_roundg g2;case measure=>omega
       case rel=>exact⟨G,j+1,by go_num,by omega,GF.out.1,GF.out.2.1,(λt ht=>by
         by_cases e:t=j
         ·rw[e,aT.out];exact D3.out
         ·exact GF.out.2.2.1 t (by omega)),aA.out,GF.out.2.2.2.1,GF.out.2.2.2.2.1,(λkk e=>by simp[Value.ownBlock] at e;rw[<-e];exact GF.out.2.2.2.2.2.2.1),GF.out.2.2.2.2.2.1⟩
      ·have hd:decide (y∈G)=false:=aS W
       rw[hd];obtain⟨m1,m2⟩:=aH.out G k x y GF.out.1 GF.out.2.1 aV.out W;have KQ:=bh.new w6 #[.int .i64 y] 3;have bU:G.length<=33:=bO;obtain⟨v',w8,hr,ba,LO⟩:=lG (P:= prog) 141 3 141 i0 _ 1 8 underlying141 hi aM bl aN rfl (by omega) w.heap.size G.length _ _ (aA.out.alloc (.cells #[.int .i64 y] 3)) (some ⟨w6.heap.size,0,none⟩) 1 1 [.int .i64 y] rfl (λ_=>⟨_,rfl,jP _ [_] _ _ rfl⟩) (by simp[Value.oneCell']) (by unfold maxLen;omega) (by omega) (by have U:=Tn.out;have h2:=GF.out;simp;omega);have ar:=Km (P:= prog) w.heap.size 141 141 3 i0 _ 1 8 underlying141 hi aM bl aN (by omega) Zv G.length av _ (aA.out.alloc (.cells #[.int .i64 y] 3)) ⟨w6.heap.size,0,none⟩ 1 1 [.int .i64 y] rfl (jP _ [_] _ _ rfl) (by simp[Value.oneCell']) (by unfold maxLen;omega) (by omega) hr;have uS:az [Zv] w6 w8:=((az.refl [Zv] w6).alloc (.cells #[.int .i64 y] 3)).trans (az.of_grown (l:=[Zv]) LO (λkk e=>by simp[Value.ownBlock] at e;exact .inl (by simp[e]))) (λz hz=> .inl hz);have HN:Hid (bI (G++[y]) k/\(G++[y])[k]? =some x/\(∀t,t<j+1->jl n.E t∈G++[y])/\w8.ownsRow w.heap.size 3 1 v' (G++[y]).length (zs (G++[y]))/\az [] w w8/\az [gR] w4 w8/\(∀kk,v'.ownBlock=some kk->kk=gR\/w4.heap.size<=kk)/\G++[y]≠[]):=by
        obtain⟨a1,a2,a3,a4,a5,a6,a7,a8,a9⟩:=GF.out;have U:=Tn.out;refine⟨m1,m2,λt ht=> ?_,?_,a4.trans uS (λz hz=>by rw[ay] at hz;right;omega),a5.trans uS (λz hz=>by rw[ay] at hz;subst hz;rcases a7 with e|e;exact .inl (by simp[e]);exact .inr e),λkk e=> ?_,by simp⟩
        ·by_cases e:t=j
         ·rw[e,aT.out];simp
         ·have :=a3 t (by omega);simp[this]
        ·rw[aD,BJ]
         exact ba
        ·rcases ar with e2|e2
         ·rw[e2] at e;injection e with e;rw[<-e];exact a7
         ·rw[e2] at e;injection e with e;rw[<-e];right;simp;omega
       clear hd W N9 ae DG m1 m2 KQ ba LO ar uS;generalize G.length=q' at *;go_wp2_with(at_builtin;refine wpList_append_run rfl (.tmp 50) (.tmp 53) 141 141 ?_ (.slice (some ⟨Zv,0,none⟩) q' av) (.slice (some ⟨w6.heap.size,0,none⟩) 1 1) ?_ ?_ hr ?_;all_goals first|rfl|skip);go_roundg g2;case measure=>omega
       case rel=>exact⟨G++[y],j+1,by go_num,by omega,HN.out⟩
  ·have Bp:¬(k:Int)<(R.length:Int):=by omega
   have bn:k=R.length:=by
    have U:=J.out.1;have h2:k<=R.length:=Vx.out R k U;omega
   have jC:=au (PR.out R k J.out.1 bn);have iZ:=au J.out.2.2.1;clear J Kn PR aH mI HG uL bn V aL ho aF;generalize R.length=q at *;go_wp2_with fail;go_ret;exact bb.out false _ ⟨(λh=>by cases h),λh=>absurd h jC.out⟩ iZ.out
def XP (X:List Int) (b:Int):Bool:=if GL b=true then dC X b.toNat else true
theorem T9 (h:eO w b W B ps)(z:In64 (aA B ps))(i:Int):
  Calls prog 133 #[.pointer (some ⟨b,0,none⟩),.int .i64 i] w λe w'=>e= .returned (.bool (XP (aA B ps) i))/\w=w':=by
 have G:=au (Ak i w);unfold XP;cases hi:GL i
 ·rw[hi] at G
  rw[aB (by simp)];clear hi h;go_enter func133,ntmps133;go_wp2_with(go_at_call 164;refine G.out.mono ?_;rintro e w' ⟨rfl,rfl⟩);go_ret;exact⟨rfl,rfl⟩
 ·rw[hi] at G
  rw[aC rfl];obtain⟨h0,h1⟩:=xa.1 hi;clear hi;obtain⟨j,rfl⟩:=cu h0;have J:j<256:=by omega
  rw[aH];have HB:=au (CS j J w);have V:=au (xb j J w);have U:=au (oC h ((816+j/64:Nat):Int));rw[BH z (j/64) (by omega)] at U;have ha:=iu (bw (aA B ps) (j/64)) (oG j) (ED z _) (JH j);have he:((((bw (aA B ps) (j/64) &&& oG j:Nat):Int)) != 0)=dC (aA B ps) j:=by
   have :=V3 (bw (aA B ps) (j/64)) j;unfold dC;rw[Bool.eq_iff_iff,<-this];simp
  generalize bw (aA B ps) (j/64) &&& oG j=y at *;generalize bw (aA B ps) (j/64)=x at *;generalize oG j=m at *;generalize dC (aA B ps) j=u at *;clear h z;go_enter func133,ntmps133;go_wp2_with fail;refine G.out.mono ?_;rintro e w' ⟨rfl,rfl⟩;go_wp2_with fail;refine HB.out.mono ?_;rintro e w' ⟨rfl,rfl⟩;go_wp2_with fail;refine U.out.mono ?_;rintro e w' ⟨rfl,rfl⟩;go_wp2_with fail;refine V.out.mono ?_;rintro e w' ⟨rfl,rfl⟩;go_wp2_with fail;go_ret;exact⟨rfl,rfl⟩
structure qJ (X:List Int) (T:List (bP×Value)) (own:Nat->List Nat):Prop where
 len:T.length=32
 each:∀i:Nat,i<32->eG X (i:Int) (nT T i) (own i)\/((∀n o,¬eG X (i:Int) n o)/\nT T i=cr/\own i=[])
theorem abm (X:List Int):∃T own,qJ X T own:=by
 have h:∀i:Nat,∃p:bP×List Nat,eG X (i:Int) p.1 p.2\/((∀n o,¬eG X (i:Int) n o)/\p.1=cr/\p.2=[]):=λi=>by
  by_cases h:∃p:bP×List Nat,eG X (i:Int) p.1 p.2
  ·obtain⟨p,G⟩:=h
   exact⟨p,.inl G⟩
  ·exact⟨(cr,[]),.inr ⟨λn o U=>h ⟨(n,o),U⟩,rfl,rfl⟩⟩
 obtain⟨f,J⟩:=Classical.axiomOfChoice h;refine⟨(List.range 32).map λi=>((f i).1,.slice none 0 0),λi=>(f i).2,by simp,λi z=> ?_⟩;have e:nT ((List.range 32).map λi=>((f i).1,Value.slice none 0 0)) i=(f i).1:=by
  unfold nT;rw[aj,bF,cA z];rfl
 rw[e];exact J i
theorem MM{i:Int}{n:bP}{o:List Nat}(h:eG X i n o):n.F=1\/n.F=2:=h.right.1
theorem qJ.zero(h:qJ X T own){i:Nat}(z:32<=i):nT T i=cr:=by
 unfold nT;rw[aj,aT (by rw[h.len];omega)];rfl
theorem qJ.form(h:qJ X T own)(i:Nat):((nT T i).F≠0/\i<32/\eG X (i:Int) (nT T i) (own i))\/((nT T i).F=0/\nT T i=cr/\(i<32->own i=[]/\∀n o,¬eG X (i:Int) n o)):=by
 rcases dG i 32 with G|G
 ·rcases h.each i G with z|⟨z,J,U⟩
  ·exact .inl ⟨by have :=MM z;omega,G,z⟩
  ·exact .inr ⟨by rw[J];rfl,J,λ_=>⟨U,z⟩⟩
 ·have :=h.zero G
  exact .inr ⟨by rw[this];rfl,this,λh=>by omega⟩
theorem qJ.tabS(h:qJ X T own):adD T:=λi G=>by
 rcases h.form i with ⟨z,-⟩|⟨-,J,-⟩
 ·exact absurd G z
 ·rw[J];rfl
theorem qJ.tabR(h:qJ X T own):afX T:=λi G J=>by
 rcases h.form i with ⟨-,-,z⟩|⟨z,-⟩
 ·exact z.right
 ·omega
theorem qJ.tabN(h:qJ X T own):TY T:=afY h.tabS h.tabR λi G=>by
 rcases h.form i with ⟨-,-,z⟩|⟨z,-⟩
 ·have :=MM z;omega
 ·omega
theorem qJ.get(h:qJ X T own){i:Nat}(W:i<32){n:bP}{o:List Nat}{r:Int}(hg:TT X (i:Int) n o r):
  n=nT T i/\o=own i/\((r=0/\(nT T i).F≠0)\/(r=2/\(nT T i).F=0/\dP X (i:Int))\/(r=10/\(nT T i).F=0/\¬dP X (i:Int))):=by
 rcases hg with ⟨-,g1,-⟩|⟨G,-,U,g3,g4⟩|⟨G,-,U,g3,g4,g5⟩|⟨G,g1⟩
 ·omega
 ·rcases h.form i with ⟨-,-,e⟩|⟨V,J,z⟩
  ·exact absurd U e.notFree
  ·exact⟨by rw[g3,J],by rw[g4,(z W).1],.inr (.inl ⟨G,V,U⟩)⟩
 ·rcases h.form i with ⟨-,-,e⟩|⟨V,J,z⟩
  ·exact absurd e (g3 _ _)
  ·exact⟨by rw[g4,J],by rw[g5,(z W).1],.inr (.inr ⟨G,V,U⟩)⟩
 ·rcases h.form i with ⟨e0,-,e⟩|⟨V,J,z⟩
  ·obtain⟨rfl,rfl⟩:=e.uniq g1
   exact⟨rfl,rfl,.inl ⟨G,e0⟩⟩
  ·exact absurd g1 ((z W).2 _ _)
theorem qJ.succ(h:qJ X T own){x:Int}{n:bP}{o:List Nat}{r:Int}(J:TT X x n o r):n.E.map (·.2)=pd T x:=by
 unfold pd;by_cases z:0<=x/\x<32
 ·obtain⟨j,rfl⟩:=cu z.1
  rw[aC z,(h.get (i:=j) (by omega) J).1];rfl
 ·rw[aB z]
  rcases J with ⟨-,-,U,-⟩|⟨-,G,-⟩|⟨-,G,-⟩|⟨-,G⟩
  ·rw[U];rfl
  ·exact absurd G z
  ·exact absurd G z
  ·exact absurd G.rng z
theorem qJ.elen(h:qJ X T own)(i:Nat):(nT T i).E.length<=24:=by
 rcases h.form i with ⟨-,-,z⟩|⟨-,z,-⟩
 ·exact(jz z.right).1
 ·rw[z];exact fC _
def yC (E:List (ByteArray×Int)) (j i:Nat):Nat:=(E.take j).countP λe=>e.2==(i:Int)
theorem Ru (E:List (ByteArray×Int))(j i:Nat):yC E j i<=j:=
 cD List.countP_le_length (by rw[aJ];omega)
theorem Ua (E:List (ByteArray×Int))(i:Nat):yC E 0 i=0:=by simp[yC]
theorem Ub{E:List (ByteArray×Int)}(z:j<E.length)(i:Nat):yC E (j+1) i=yC E j i+if jl E j=(i:Int) then 1 else 0:=by
 unfold yC;rw[bJ z,List.countP_append,List.countP_singleton];have :jl E j=E[j].2:=by simp[jl,z]
 rw[this];by_cases h:E[j].2=(i:Int)<;>simp[h]
def I7 (T:List (bP×Value)):Nat->Nat->Nat
 |0,_=>0
 |k+1,i=>I7 T k i+yC (nT T k).E (nT T k).E.length i
def lf (T:List (bP×Value)) (i:Nat):Nat:=I7 T 32 i
def km (T:List (bP×Value)):Nat->List (Nat×bP)
 |0=>[]
 |k+1=>km T k++if (nT T k).F=0 then [] else [(k,nT T k)]
def wF:List (Nat×bP)->Nat->Nat
 | [],_=>0
 |p::l,i=>yC p.2.E p.2.E.length i+wF l i
theorem Dj (l m:List (Nat×bP))(i:Nat):wF (l++m) i=wF l i+wF m i:=by
 induction l with
 |nil=>simp[wF]
 |cons p l ih=>simp[wF,ih];omega
theorem XQ (z:adD T)(k i:Nat):wF (km T k) i=I7 T k i:=by
 induction k with
 |zero=>rfl
 |succ k ih=>
  unfold km I7;rw[Dj,ih];by_cases h:(nT T k).F=0
  ·rw[aC h,z k h];rfl
  ·rw[aB h];simp[wF]
theorem oa{p:Nat×bP}:p∈km T k↔p.1<k/\p.2=nT T p.1/\p.2.F≠0:=by
 induction k with
 |zero=>simp[km]
 |succ k ih=>
  unfold km;rw[aU,ih];constructor
  ·rintro (⟨J,z,G⟩|h)
   ·exact⟨by omega,z,G⟩
   ·split at h
    ·simp at h
    ·next hF=>
     rw[ay] at h;subst h;exact⟨by show k<_;omega,rfl,hF⟩
  ·rintro⟨J,z,G⟩
   by_cases e:p.1=k
   ·right
    rw[aB (by rw[<-e,<-z];exact G),ay];obtain⟨a,c⟩:=p;cases e;exact cB (Prod.mk a) z
   ·exact .inl ⟨by omega,z,G⟩
def kD (X:List Int):Prop:=
 X.getD 0 0=7596835243318849792/\(X.getD 1 0=1\/X.getD 1 0=2)/\X.getD 2 0<=32/\(∀i:Nat,3<=i->i<8->X.getD i 0=0)/\∀i:Nat,820<=i->i<824->X.getD i 0=0
def vK (X:List Int) (T:List (bP×Value)):Prop:=∀i:Nat,i<32->dP X (i:Int)\/(nT T i).F≠0
def MN (X:List Int) (T:List (bP×Value)):Prop:=(nT T 0).K=2/\∀i:Nat,i<32->0<lf T i->¬dP X (i:Int)
def rU (i:Nat) (n:bP) (c:Nat):Prop:=(n.K=1->(c:Int)=n.L/\1<=c)/\(n.K=2->n.L=1/\(i=0->c=0)/\(i≠0->c=1))
def xC (T:List (bP×Value)):Prop:=∀i:Nat,i<32->rU i (nT T i) (lf T i)
def F4 (X:List Int) (T:List (bP×Value)):Prop:=∀i:Nat,i<32->¬dP X (i:Int)->Reach T 0 (i:Int)
def jQ (T:List (bP×Value)) (own:Nat->List Nat):Nat->Nat->Nat
 |0,_=>0
 |k+1,b=>jQ T own k b+(own k++dn (nT T k)).count b
def wG (T:List (bP×Value)) (own:Nat->List Nat) (b:Nat):Nat:=jQ T own 32 b
def Rv (X:List Int) (T:List (bP×Value)) (own:Nat->List Nat):Prop:=∀b:Nat,b<256->wG T own b<=1/\(dC X b=true↔wG T own b=1)
def jR (X:List Int) (n:bP):Prop:=n.K=1->∀k:Nat,k<13->n.B.getD k 0≠0->∀j:Nat,j<64->n.S<=64*(k:Int)+j->qR (X.getD (1080+8*(n.B.getD k 0).toNat+j/8) 0).toNat (j%8)=0
def xD (X:List Int) (T:List (bP×Value)):Prop:=∀i:Nat,i<32->jR X (nT T i)
def rV (X:List Int) (T:List (bP×Value)) (own:Nat->List Nat):Nat->Prop
 |0=>kD X
 |1=>vK X T
 |2=>MN X T
 |3=>xC T
 |4=>F4 X T
 |5=>Rv X T own
 |6=>xD X T
 |_=>True
def Ko (P:Nat->Prop) (k:Nat):Prop:=(k=0/\∀j,j<7->P j)\/(0<k/\k<=7/\¬P (k-1)/\∀j,j<k-1->P j)
theorem Ko.uniq{P:Nat->Prop}{G:Nat}(h:Ko P k)(U:Ko P G):k=G:=by
 rcases h with ⟨rfl,J⟩|⟨h0,h1,J,h3⟩
 ·rcases U with ⟨rfl,-⟩|⟨V,W,z,-⟩
  ·rfl
  ·exact absurd (J _ (by omega)) z
 ·rcases U with ⟨rfl,z⟩|⟨V,W,z,g3⟩
  ·exact absurd (z _ (by omega)) J
  ·rcases Nat.lt_trichotomy k G with e|e|e
   ·exact absurd (g3 (k-1) (by omega)) J
   ·exact e
   ·exact absurd (h3 (G-1) (by omega)) z
theorem Uc{n:bP}(hB:n.B.length=13)(U:bZ n)(hK:n.K=1):jR X n↔(n.S%64≠0->n.B.getD (n.S/64).toNat 0≠0->∀j:Nat,n.S%64<=(j:Int)->j<64->qR (X.getD (1080+8*(n.B.getD (n.S/64).toNat 0).toNat+j/8) 0).toNat (j%8)=0):=by
 have hS:0<=n.S/\n.S<=832:=by
  rcases U.2.2 with h|h
  ·exact h.2.1
  ·omega
 have sX:=TX hB U;constructor
 ·intro h h0 G j W z
  refine h hK (n.S/64).toNat (by omega) G j z ?_;omega
 ·intro h _ k V G j W aa
  have h1:=(sX k V).2 (by have :=(sX k V).1;omega);have h2:=h1.2.1;have J:k=(n.S/64).toNat:=by omega
  subst J;exact h (by omega) G j (by omega) W
theorem Ud{n:bP}(v:Value)(hB:n.B.length=13)(hK:n.K=1\/n.K=2)(i c:Nat)(w:World):
  Calls prog 131 #[.int .i64 (i:Int),.agg (aR n v),.int .i64 (c:Int)] w (dh w (rU i n c)):=by
 have hb:=bh.new w (aR n v) 111;have hk:=(az.refl [] w).alloc (.cells (aR n v) 111);have z:Hid (∀r:Bool,(r=true↔((n.K=1->(c:Int)=n.L/\1<=c)/\(n.K=2->n.L=1/\(i=0->c=0)/\(i≠0->c=1))))->dh w (rU i n c) (.returned (.bool r)) (w.alloc (.cells (aR n v) 111))):=λr h=>⟨r,rfl,h,hk⟩
 have c1:(w.alloc (.cells (aR n v) 111)).cell? ⟨w.heap.size,1,none⟩=some (.int .i64 n.K):=by rw[hb.cell];exact(iX v hB).f1
 have c2:(w.alloc (.cells (aR n v) 111)).cell? ⟨w.heap.size,2,none⟩=some (.int .i64 n.L):=by rw[hb.cell];exact(iX v hB).f2
 clear hb hk;generalize aR n v=Z at *;generalize rU i n c=pP at *;generalize n.K=K at *;generalize n.L=L at *;obtain⟨U,N5⟩:∃U:Int,(c:Int)=U:=⟨_,rfl⟩;obtain⟨ii,W⟩:∃ii:Int,(i:Int)=ii:=⟨_,rfl⟩;have KP:=au N5;have VB:=au W;rw[N5,W];rw[N5] at z;clear N5 W;rcases hK with rfl|rfl
 ·by_cases J:U=L
  ·have b1:(U==L)=true:=by simpa using J
   by_cases V:1<=U
   ·have G:=au (z.out true ⟨λ_=>⟨λ_=>⟨J,by have :=KP.out;omega⟩,λh=>by omega⟩,λ_=>rfl⟩)
    clear z J;go_enter func131,ntmps131;go_wp2_with fail;go_ret;exact G.out
   ·have G:=au (z.out false ⟨(λh=>by cases h),λh=>by have :=KP.out;have :=(h.1 rfl).2;omega⟩)
    clear z J;go_enter func131,ntmps131;go_wp2_with fail;go_ret;exact G.out
  ·have b1:(U==L)=false:=by simpa using J
   have G:=au (z.out false ⟨(λh=>by cases h),λh=>absurd (h.1 rfl).1 J⟩);clear z J;go_enter func131,ntmps131;go_wp2_with fail;go_ret;exact G.out
 ·by_cases e0:ii=0
  ·subst e0
   by_cases J:L=1
   ·subst J
    by_cases V:U=0
    ·subst V
     have G:=au (z.out true ⟨λ_=>⟨λh=>by omega,λ_=>⟨rfl,λ_=>by have :=KP.out;omega,λh=>by have :=VB.out;omega⟩⟩,λ_=>rfl⟩);clear z;go_enter func131,ntmps131;go_wp2_with fail;go_ret;exact G.out
    ·have b2:(U==0)=false:=by simpa using V
     have G:=au (z.out false ⟨(λh=>by cases h),λh=>by have :=(h.2 rfl).2.1 (by have :=VB.out;omega);have :=KP.out;omega⟩);clear z V;go_enter func131,ntmps131;go_wp2_with fail;go_ret;exact G.out
   ·have b1:(L==1)=false:=by simpa using J
    have G:=au (z.out false ⟨(λh=>by cases h),λh=>absurd (h.2 rfl).1 J⟩);clear z J;go_enter func131,ntmps131;go_wp2_with fail;go_ret;exact G.out
  ·have b0:(ii==0)=false:=by simpa using e0
   by_cases J:L=1
   ·subst J
    by_cases V:U=1
    ·subst V
     have G:=au (z.out true ⟨λ_=>⟨λh=>by omega,λ_=>⟨rfl,λh=>by have :=VB.out;omega,λ_=>by have :=KP.out;omega⟩⟩,λ_=>rfl⟩);clear z e0;go_enter func131,ntmps131;go_wp2_with fail;go_ret;exact G.out
    ·have b2:(U==1)=false:=by simpa using V
     have G:=au (z.out false ⟨(λh=>by cases h),λh=>by have :=(h.2 rfl).2.2 (by have :=VB.out;omega);have :=KP.out;omega⟩);clear z V e0;go_enter func131,ntmps131;go_wp2_with fail;go_ret;exact G.out
   ·have b1:(L==1)=false:=by simpa using J
    have G:=au (z.out false ⟨(λh=>by cases h),λh=>absurd (h.2 rfl).1 J⟩);clear z J e0;go_enter func131,ntmps131;go_wp2_with fail;go_ret;exact G.out
def DR (i:Int) (x:Int):Prop:=(i=0->x=7596835243318849792)/\(i=1->x=1\/x=2)/\(i=2->x<=32)/\(2<i->x=0)
def I8 (w:World) (p:Prop) (e:Ending) (w':World):Prop:=(∃r:Bool,e= .returned (.bool r)/\(r=true↔p))/\w=w'
theorem Hh (i x:Int)(hi:0<=i)(w:World):
  Calls prog 126 #[.int .i64 i,.int .u64 x] w (I8 w (DR i x)):=by
 have z:Hid (∀r:Bool,(r=true↔((i=0->x=7596835243318849792)/\(i=1->x=1\/x=2)/\(i=2->x<=32)/\(2<i->x=0)))->I8 w (DR i x) (.returned (.bool r)) w):=λr h=>⟨⟨r,rfl,h⟩,rfl⟩
 generalize DR i x=pP at *;by_cases W:i=0
 ·subst W
  by_cases U:x=7596835243318849792
  ·have G:=au (z.out true ⟨λ_=>⟨λ_=>U,by omega,by omega,by omega⟩,λ_=>rfl⟩)
   have b1:(x==7596835243318849792)=true:=by simpa using U
   clear z U;go_enter func126,ntmps126;go_wp2_with fail;go_ret;exact G.out
  ·have G:=au (z.out false ⟨(λh=>by cases h),λh=>absurd (h.1 rfl) U⟩)
   have b1:(x==7596835243318849792)=false:=by simpa using U
   clear z U;go_enter func126,ntmps126;go_wp2_with fail;go_ret;exact G.out
 ·have b0:(i==0)=false:=by simpa using W
  by_cases U:i=1
  ·subst U
   by_cases V:x=1
   ·subst V
    have G:=au (z.out true ⟨λ_=>⟨by omega,λ_=> .inl rfl,by omega,by omega⟩,λ_=>rfl⟩);clear z W;go_enter func126,ntmps126;go_wp2_with fail;go_ret;exact G.out
   ·have b2:(x==1)=false:=by simpa using V
    by_cases J:x=2
    ·subst J
     have G:=au (z.out true ⟨λ_=>⟨by omega,λ_=> .inr rfl,by omega,by omega⟩,λ_=>rfl⟩);clear z W V;go_enter func126,ntmps126;go_wp2_with fail;go_ret;exact G.out
    ·have b3:(x==2)=false:=by simpa using J
     have G:=au (z.out false ⟨(λh=>by cases h),λh=>by have :=h.2.1 rfl;omega⟩);clear z W V J;go_enter func126,ntmps126;go_wp2_with fail;go_ret;exact G.out
  ·have b1:(i==1)=false:=by simpa using U
   by_cases V:i=2
   ·subst V
    by_cases J:x<=32
    ·have G:=au (z.out true ⟨λ_=>⟨by omega,by omega,λ_=>J,by omega⟩,λ_=>rfl⟩)
     clear z W U;go_enter func126,ntmps126;go_wp2_with fail;go_ret;simpa[J] using G.out
    ·have G:=au (z.out false ⟨(λh=>by cases h),λh=>absurd (h.2.2.1 rfl) J⟩)
     clear z W U;go_enter func126,ntmps126;go_wp2_with fail;go_ret;simpa[J] using G.out
   ·have b2:(i==2)=false:=by simpa using V
    by_cases J:x=0
    ·subst J
     have G:=au (z.out true ⟨λ_=>⟨by omega,by omega,by omega,λ_=>rfl⟩,λ_=>rfl⟩);clear z W U V;go_enter func126,ntmps126;go_wp2_with fail;go_ret;exact G.out
    ·have b3:(x==0)=false:=by simpa using J
     have G:=au (z.out false ⟨(λh=>by cases h),λh=>absurd (h.2.2.2 (by omega)) J⟩);clear z W U V J;go_enter func126,ntmps126;go_wp2_with fail;go_ret;exact G.out
structure gN (w:World) (b gp:Nat) (B:List Int) (ps:List (Int×Int)) (T:List (bP×Value)) (own:Nat->List Nat):Prop where
 sh:eO w b gp B ps
 w64:In64 (aA B ps)
 gots:qJ (aA B ps) T own
 lt:b<w.heap.size/\gp<w.heap.size
theorem gN.keep(h:gN w b z B ps T own){l:List Nat}(J:az l w w')(U:∀k∈l,w.heap.size<=k\/(k≠b/\k≠z)):gN w' b z B ps T own:=
 ⟨h.sh.keep J (λG=>by have :=U _ G;have :=h.lt;omega) (λG=>by have :=U _ G;have :=h.lt;omega),h.w64,h.gots,by have :=h.lt;have :=J.size;omega⟩
theorem gN.keep0(h:gN w b z B ps T own)(G:az [] w w'):gN w' b z B ps T own:=h.keep G (by simp)
def x9 (w:World) (X:List Int) (T:List (bP×Value)) (own:Nat->List Nat) (i:Nat) (e:Ending) (w':World):Prop:=
 ∃v g h z r,e= .returned (.tuple #[.agg (aR (nT T i) v),h,.int .i64 r])/\(nT T i).B.length=13/\bC w' v g (nT T i).E/\w.heap.size<=g/\lq w' h z (own i)/\w.heap.size<=z/\az [] w w'/\
  ((r=0/\(nT T i).F≠0)\/(r=2/\(nT T i).F=0/\dP X (i:Int))\/(r=10/\(nT T i).F=0/\¬dP X (i:Int)))
theorem gN.get(h:gN w b W B ps T own){i:Nat}(U:i<32):
  Calls prog 97 #[.pointer (some ⟨b,0,none⟩),.int .i64 (i:Int)] w (x9 w (aA B ps) T own i):=by
 refine(get_at h.sh h.w64 (i:Int)).mono ?_;rintro e w' ⟨n,v,g,o,va,ga,r,rfl,hB,hE,V,hO,J,G,z⟩;obtain⟨rfl,rfl,h3⟩:=h.gots.get U z;exact⟨v,g,va,ga,r,rfl,hB,hE,V,hO,J,G,h3⟩
theorem gN.below{U:Nat}(h:gN w b U B ps T own)(d i:Int):
  Calls prog 114 #[.pointer (some ⟨b,0,none⟩),.int .i64 d,.int .i64 i] w (dh w (Reach T d i)):=
 PQ (λx wx z=>by
  refine(get_at (h.keep0 z).sh h.w64 x).mono ?_;rintro e w' ⟨n,v,g,o,va,ga,r,rfl,V,hE,J,W,tv,z,G⟩;obtain⟨a,cap,rfl,-,-,-⟩:=W.reads;exact⟨n,v,g,a,_,cap,r,rfl,V,hE,J,h.gots.succ G,z⟩) h.gots.tabN d i
theorem MO{i:Nat}(h:i<3128):Ae B ps (i:Int)=(aA B ps).getD i 0:=by
 unfold Ae;rw[aC (by omega),aH]
theorem Ue (X:List Int):kD X↔(∀i:Nat,i<8->DR (i:Int) (X.getD i 0))/\∀k:Nat,k<4->X.getD (820+k) 0=0:=by
 unfold kD DR;constructor
 ·rintro⟨V,z,G,J,W⟩
  refine⟨λi U=>⟨λe=> ?_,λe=> ?_,λe=> ?_,λe=>J i (by omega) U⟩,λk hk=>W _ (by omega) (by omega)⟩
  ·obtain rfl:i=0:=by omega
   exact V
  ·obtain rfl:i=1:=by omega
   exact z
  ·obtain rfl:i=2:=by omega
   exact G
 ·rintro⟨h,g⟩
  refine⟨(h 0 (by omega)).1 rfl,(h 1 (by omega)).2.1 rfl,(h 2 (by omega)).2.2.1 rfl,λi J h8=>(h i h8).2.2.2 (by omega),λi z G=> ?_⟩;have :=g (i-820) (by omega);rwa[show 820+(i-820)=i by omega] at this
theorem Hj (h:eO w b gp B ps):
  Calls prog 81 #[.pointer (some ⟨b,0,none⟩)] w (dh w (kD (aA B ps))):=by
 have HG:Hid (∀i:Nat,i<3128->Calls prog 127 #[.pointer (some ⟨b,0,none⟩),.int .i64 (i:Int)] w λe w'=>e= .returned (.int .u64 ((aA B ps).getD i 0))/\w=w'):=λi hi=>by
  have :=oC h (i:Int);rwa[MO hi] at this
 have HP:Hid (∀r:Bool,(r=true↔(∀i:Nat,i<8->DR (i:Int) ((aA B ps).getD i 0))/\∀k:Nat,k<4->(aA B ps).getD (820+k) 0=0)->dh w (kD (aA B ps)) (.returned (.bool r)) w):=λr hr=>⟨r,rfl,hr.trans (Ue _).symm,az.refl _ _⟩
 clear h;generalize aA B ps=X at *;generalize kD X=pS at *;go_enter func81,ntmps81;go_wp2_with fail;go_loopg [3] 8 (λgh s3 wx=>w=wx/\∃k:Nat,k+gh=8/\s3= .int .i64 (k:Int)/\Hid (∀i:Nat,i<k->DR (i:Int) (X.getD i 0)))
 case atStart=>exact⟨rfl,0,by omega,rfl,λi hi=>by omega⟩
 case round=>
  obtain⟨rfl,k,hk,rfl,U⟩:=hrel;cases gk with
  |succ gg=>
   have Bp:(k:Int)<8:=by omega
   have dt:(0:Int)<=(k:Int):=by omega
   have Zw:=au (HG.out k (by omega));have SM:=au (Hh (k:Int) (X.getD k 0) dt);have z:Hid (DR (k:Int) (X.getD k 0)->∀i:Nat,i<k+1->DR (i:Int) (X.getD i 0)):=λV i hi=>by
    by_cases e:i=k
    ·rw[e];exact V
    ·exact U.out i (by omega)
   have J:Hid (¬DR (k:Int) (X.getD k 0)->¬((∀i:Nat,i<8->DR (i:Int) (X.getD i 0))/\∀k:Nat,k<4->X.getD (820+k) 0=0)):=λV hh=>V (hh.1 k (by omega))
   generalize X.getD k 0=x at *;clear U HG;go_wp2_with fail;refine Zw.out.mono ?_;rintro e w1 ⟨rfl,rfl⟩;clear Zw;go_wp2_with fail;refine(SM.out _).mono ?_;rintro e w1 ⟨⟨r,rfl,hr⟩,rfl⟩;clear SM;cases r
   ·have HF:=au (HP.out false ⟨(λh=>by cases h),λhh=>absurd hh (J.out λV=>by cases hr.2 V)⟩)
    clear z J HP hr;go_wp2_with fail;go_ret;exact HF.out
   ·have HN:=au (z.out (hr.1 rfl))
    clear z J hr;go_wp2_with fail;go_roundg gg;case measure=>omega
    case rel=>exact⟨rfl,k+1,by omega,by go_num,HN.out⟩
  |zero=>
   obtain rfl:k=8:=by omega
   have H8:=au U.out;clear U hk;go_wp2_with fail;go_loopg [4] 4 (λgh s4 wx=>w=wx/\∃k:Nat,k+gh=4/\s4= .int .i64 ((820+k:Nat):Int)/\Hid (∀i:Nat,i<k->X.getD (820+i) 0=0))
   case atStart=>exact⟨rfl,0,by omega,rfl,λi hi=>by omega⟩
   case round=>
    obtain⟨rfl,k,hk,rfl,U⟩:=hrel;have Zw:Hid (k<4->Calls prog 127 #[.pointer (some ⟨b,0,none⟩),.int .i64 ((820+k:Nat):Int)] w λe w'=>e= .returned (.int .u64 (X.getD (820+k) 0))/\w=w'):=λae=>HG.out (820+k) (by omega)
    have z:Hid (X.getD (820+k) 0=0->∀i:Nat,i<k+1->X.getD (820+i) 0=0):=λV i hi=>by
     by_cases e:i=k
     ·rw[e];exact V
     ·exact U.out i (by omega)
    have J:Hid (k<4->X.getD (820+k) 0≠0->¬((∀i:Nat,i<8->DR (i:Int) (X.getD i 0))/\∀k:Nat,k<4->X.getD (820+k) 0=0)):=λh4 V hh=>V (hh.2 k h4)
    obtain⟨q,hq⟩:∃q,820+k=q:=⟨_,rfl⟩;rw[hq] at Zw z J;rw[hq];have HQ:=au hq;generalize X.getD q 0=x at *;cases gk with
    |succ g2=>
     have aa:(q:Int)<824:=by omega
     have ac:(0:Int)<=(q:Int):=by omega
     have G:=au (Zw.out (by omega));have W:k<4:=by omega
     clear Zw U HG H8 hq;by_cases hx:x=0
     ·subst hx
      have HN:=au (z.out rfl);clear z J W;go_wp2_with fail;refine G.out.mono ?_;rintro e w1 ⟨rfl,rfl⟩;clear G;go_wp2_with fail;go_roundg g2;case measure=>omega
      case rel=>exact⟨rfl,k+1,by omega,by have :=HQ.out;go_num,HN.out⟩
     ·have hb:(x != 0)=true:=bne_iff_ne.2 hx
      have HF:=au (HP.out false ⟨(λh=>by cases h),λhh=>absurd hh (J.out W hx)⟩);clear z J HP hx W;go_wp2_with fail;refine G.out.mono ?_;rintro e w1 ⟨rfl,rfl⟩;clear G;go_wp2_with fail;go_ret;exact HF.out
    |zero=>
     obtain rfl:k=4:=by omega
     have aa:¬(q:Int)<824:=by omega
     have HF:=au (HP.out true ⟨λ_=>⟨H8.out,U.out⟩,λ_=>rfl⟩);clear z J HP Zw U H8 HG hq;go_wp2_with fail;go_ret;exact HF.out
theorem Uf (h:gN w b gp B ps T own):
  Calls prog 82 #[.pointer (some ⟨b,0,none⟩)] w (dh w (vK (aA B ps) T)):=by
 have HG:Hid (∀J,az [] w J->∀i:Nat,i<32->Calls prog 97 #[.pointer (some ⟨b,0,none⟩),.int .i64 (i:Int)] J (x9 J (aA B ps) T own i)):=λJ hk i hi=>(h.keep0 hk).get hi
 have HP:Hid (∀(r:Bool) w',(r=true↔∀i:Nat,i<32->dP (aA B ps) (i:Int)\/(nT T i).F≠0)->az [] w w'->dh w (vK (aA B ps) T) (.returned (.bool r)) w'):=λr w' hr hk=>⟨r,rfl,hr,hk⟩
 have ub:=eA;obtain⟨Z0,Cn⟩:∃Z0,aR cr (.slice none 0 0)=Z0:=⟨_,rfl⟩;have GA:Hid (Z0.size=18):=by show _=_;rw[<-Cn];rfl
 rw[Cn] at ub;clear h Cn;generalize vK (aA B ps) T=pP at *;generalize aA B ps=X at *;go_enter func82,ntmps82;go_wp2_with fail;go_loopg [7] 32 (λgh s7 J=>∃k:Nat,k+gh=32/\s7= .int .i64 (k:Int)/\Hid (az [] w J/\∀i:Nat,i<k->dP X (i:Int)\/(nT T i).F≠0))
 case atStart=>exact⟨0,by omega,rfl,az.refl _ _,λi hi=>by omega⟩
 case round=>
  obtain⟨k,hk,rfl,G⟩:=hrel;cases gk with
  |zero=>
   obtain rfl:k=32:=by omega
   have HF:=au (HP.out true _ ⟨λ_=>G.out.2,λ_=>rfl⟩ G.out.1);clear G HP HG;go_wp2_with fail;go_ret;exact HF.out
  |succ gg=>
   have Bp:(k:Int)<32:=by omega
   have uo:k<32:=by omega
   have Zw:=au (HG.out _ G.out.1 k uo);clear HG;go_wp2_with fail;refine Zw.out.mono ?_;rintro e w3 ⟨v,g,va,ga,r,rfl,hB,hE,hg,hO,tv,V,hr⟩;obtain⟨w4,p1,p2,p3⟩:=dc (n:=nT T k) (v:=v) (bh.new w3 Z0 111) GA.out hB hE.one;have vB:=au p1;have pW:Hid (az [] w w4):=(G.out.1.trans' V).trans' (((az.refl [] w3).alloc _).trans p3 (by intro x hx;rw[ay] at hx;omega));have U:=au hr;have z:=au G.out.2;clear hB hE hg hO tv V hr p1 p2 p3 G Zw;generalize aR (nT T k) v=ZN at *;by_cases W:r=0
   ·subst W
    have HN:Hid (∀i:Nat,i<k+1->dP X (i:Int)\/(nT T i).F≠0):=λi hi=>by
     by_cases e:i=k
     ·rw[e]
      rcases U.out with ⟨-,h⟩|⟨h,-⟩|⟨h,-⟩
      ·exact .inr h
      ·omega
      ·omega
     ·exact z.out i (by omega)
    clear U z;go_wp2_with(with_reducible refine gS 111 vB.out ?_);go_roundg gg;case measure=>omega
    case rel=>exact⟨k+1,by omega,by go_num,pW.out,HN.out⟩
   ·have b0:(r != 0)=true:=bne_iff_ne.2 W
    by_cases h2:r=2
    ·subst h2
     have HN:Hid (∀i:Nat,i<k+1->dP X (i:Int)\/(nT T i).F≠0):=λi hi=>by
      by_cases e:i=k
      ·rw[e]
       rcases U.out with ⟨h,-⟩|⟨-,-,h⟩|⟨h,-⟩
       ·omega
       ·exact .inl h
       ·omega
      ·exact z.out i (by omega)
     clear U z W;go_wp2_with(with_reducible refine gS 111 vB.out ?_);go_roundg gg;case measure=>omega
     case rel=>exact⟨k+1,by omega,by go_num,pW.out,HN.out⟩
    ·have b2:(r != 2)=true:=bne_iff_ne.2 h2
     have HF:Hid (dh w pP (.returned (.bool false)) w4):=HP.out false _ ⟨(λh=>by cases h),λhh=>by
      rcases U.out with ⟨h,-⟩|⟨h,-⟩|⟨-,h3,h4⟩
      ·exact absurd h W
      ·exact absurd h h2
      ·rcases hh k uo with h|h
       ·exact absurd h h4
       ·exact absurd h3 h⟩ pW.out
     clear U z W h2 HP;go_wp2_with(with_reducible refine gS 111 vB.out ?_);go_ret;exact HF.out
theorem Hk (h:gN w b gp B ps T own):
  Calls prog 85 #[.pointer (some ⟨b,0,none⟩)] w (dh w (F4 (aA B ps) T)):=by
 have yU:Hid (∀G,az [] w G->∀i:Nat,i<32->Calls prog 129 #[.pointer (some ⟨b,0,none⟩),.int .i64 (i:Int)] G λe w'=>e= .returned (.bool (decide (dP (aA B ps) (i:Int))))/\az [] G w'):=λG hk i hi=>by
  have :=Ed (h.keep0 hk).sh (i:Int);rwa[show decide ((0<=(i:Int)/\(i:Int)<32)/\dP (aA B ps) (i:Int))=decide (dP (aA B ps) (i:Int)) by rw[decide_eq_decide];exact⟨λh=>h.2,λh=>⟨⟨by omega,by omega⟩,h⟩⟩] at this
 have U:Hid (∀G,az [] w G->∀i:Nat,Calls prog 114 #[.pointer (some ⟨b,0,none⟩),.int .i64 0,.int .i64 (i:Int)] G (dh G (Reach T 0 (i:Int)))):=λG hk i=>(h.keep0 hk).below 0 (i:Int)
 have HP:Hid (∀(r:Bool) w',(r=true↔∀i:Nat,i<32->¬dP (aA B ps) (i:Int)->Reach T 0 (i:Int))->az [] w w'->dh w (F4 (aA B ps) T) (.returned (.bool r)) w'):=λr w' hr hk=>⟨r,rfl,hr,hk⟩
 clear h;generalize F4 (aA B ps) T=pP at *;generalize aA B ps=X at *;go_enter func85,ntmps85;go_wp2_with fail;go_loopg [4] 32 (λgh s4 G=>∃k:Nat,k+gh=32/\s4= .int .i64 (k:Int)/\Hid (az [] w G/\∀i:Nat,i<k->¬dP X (i:Int)->Reach T 0 (i:Int)))
 case atStart=>exact⟨0,by omega,rfl,az.refl _ _,λi hi=>by omega⟩
 case round=>
  obtain⟨k,hk,rfl,V⟩:=hrel;cases gk with
  |zero=>
   obtain rfl:k=32:=by omega
   have HF:=au (HP.out true _ ⟨λ_=>V.out.2,λ_=>rfl⟩ V.out.1);clear V HP yU U;go_wp2_with fail;go_ret;exact HF.out
  |succ gg=>
   have Bp:(k:Int)<32:=by omega
   have uo:k<32:=by omega
   have W:=au (yU.out _ V.out.1 k uo);have z:=au V.out.2;have sy:=au V.out.1;clear V yU;by_cases hf:dP X (k:Int)
   ·rw[bq hf] at W
    have HN:Hid (∀i:Nat,i<k+1->¬dP X (i:Int)->Reach T 0 (i:Int)):=λi hi hn=>by
     by_cases e:i=k
     ·rw[e] at hn;exact absurd hf hn
     ·exact z.out i (by omega) hn
    clear hf z U;go_wp2_with fail;refine W.out.mono ?_;rintro e w1 ⟨rfl,J⟩;have iU:=au (sy.out.trans' J);clear J W sy;go_wp2_with fail;go_roundg gg;case measure=>omega
    case rel=>exact⟨k+1,by omega,by go_num,iU.out,HN.out⟩
   ·rw[aS hf] at W
    have Zp:=au hf;clear hf;go_wp2_with fail;refine W.out.mono ?_;rintro e w1 ⟨rfl,J⟩;have iU:=au (sy.out.trans' J);have tM:=au (U.out _ iU.out k);clear J W sy U;go_wp2_with fail;refine tM.out.mono ?_;rintro e w2 ⟨r,rfl,hr,aa⟩;have fL:=au (iU.out.trans' aa);have HR:=au hr;clear aa hr iU tM;cases r
    ·have HF:=au (HP.out false _ ⟨(λh=>by cases h),λhh=>HR.out.2 (hh k uo Zp.out)⟩ fL.out)
     clear HP HR z Zp;go_wp2_with fail;go_ret;exact HF.out
    ·have HN:Hid (∀i:Nat,i<k+1->¬dP X (i:Int)->Reach T 0 (i:Int)):=λi hi hn=>by
      by_cases e:i=k
      ·rw[e];exact HR.out.1 rfl
      ·exact z.out i (by omega) hn
     clear HP HR z Zp;go_wp2_with fail;go_roundg gg;case measure=>omega
     case rel=>exact⟨k+1,by omega,by go_num,fL.out,HN.out⟩
def dI (n:Nat) (f:Nat->Nat):List Nat:=(List.range n).map f
theorem pI (n:Nat)(f:Nat->Nat):(dI n f).length=n:=by simp[dI]
theorem PT (h:j<n):(dI n f).getD j 0=f j:=by
 unfold dI;rw[aj,bF,cA h];rfl
theorem xE (h:j<n):(dE (dI n f)).toArray[j]? =some (.int .i64 (f j:Int)):=by
 rw[aF,np (by rw[pI];exact h),PT h]
theorem rW (h:∀j,j<n->f j=f' j):dI n f=dI n f':=by
 unfold dI;exact dD λj z=>h j (bX.1 z)
theorem PU (f:Nat->Nat){y:Nat}(x:Nat):(dI n f).set y x=dI n λq=>if q=y then x else f q:=by
 unfold dI;apply dg (by simp);intro j G z;have J:j<n:=by simpa using z
 rw[List.getElem_set];simp only[ig,jJ];by_cases e:y=j
 ·subst e;simp
 ·rw[aB e,aB (λh=>e h.symm)]
theorem Kp{T:Nat}(z:bh w g (dE (dI n f)).toArray T){j:Nat}(h:j<n):w.cell? ⟨g,j,none⟩=some (.int .i64 (f j:Int)):=by
 rw[z.cell,xE h]
theorem MP{T:Nat}(G:bh w g (dE (dI n f)).toArray T)(y:Nat)(h:∀q,q<n->f' q=if q=y then f y+1 else f q){x:Int}(z:x=((f y+1:Nat):Int)):bh (w.setCell ⟨g,y,none⟩ (.int .i64 x)) g (dE (dI n f')).toArray T:=by
 subst z;have :=G.set y (.int .i64 ((f y+1:Nat):Int));rw[ag] at this;have J:(dE (dI n f)).set y (.int .i64 ((f y+1:Nat):Int))=dE ((dI n f).set y (f y+1)):=by simp[dE,List.map_set]
 rw[J,PU,<-rW h] at this;exact this
theorem MQ (w:World):(zeroValue 182).run prog w= .ok (.agg (dE (dI 32 λ_=>0)).toArray) w:=by kernel_rfl
theorem Ug (w:World):(zeroValue 189).run prog w= .ok (.agg (dE (dI 256 λ_=>0)).toArray) w:=by kernel_rfl
theorem MR:(prog.info? 182).map (·.size)=some 32:=by kernel_rfl
theorem Uh:(prog.info? 189).map (·.size)=some 256:=by kernel_rfl
theorem XR (l:List Nat):∀u∈dE l,u.oneCell'=true:=by
 intro u h;unfold dE at h;obtain⟨x,-,rfl⟩:=bH.1 h;rfl
theorem MS{T:Nat}(h:bh w g (dE (dI 32 f)).toArray T):(loadVar 182 ⟨g,0,none⟩).run prog w= .ok (.agg (dE (dI 32 f)).toArray) w:=
 bW g 0 (dE (dI 32 f)) underlying182 rfl (by rw[fI,pI];exact MR) λj z=>by
  rw[h.cell,aX,aF]
theorem Ui{T:Nat}(h:bh w g (dE (dI 256 f)).toArray T):(loadVar 189 ⟨g,0,none⟩).run prog w= .ok (.agg (dE (dI 256 f)).toArray) w:=
 bW g 0 (dE (dI 256 f)) underlying189 rfl (by rw[fI,pI];exact Uh) λj z=>by
  rw[h.cell,aX,aF]
theorem I9{T:Nat}(h:bh w g (dE (dI 32 f)).toArray T):
  ∃w',(storeVar 182 ⟨g,0,none⟩ (.agg (dE (dI 32 f')).toArray)).run prog w= .ok () w'/\bh w' g (dE (dI 32 f')).toArray T/\az [g] w w':=
 bB (P:= prog) (ty:= 182) (cs:=dE (dI 32 f')) (by rw[fI,pI];exact MR) h (by rw[bN,fI,fI,pI,pI]) (XR _)
def zN (T:List (bP×Value)) (own:Nat->List Nat) (i:Nat):List Nat:=own i++dn (nT T i)
theorem pJ{n:bP}(V:n.B.length=13)(G:bZ n):∀c∈dn n,c≠0/\c<256:=λc z=>by
 unfold dn fx at z;obtain⟨x,h,rfl⟩:=bH.1 z;rw[List.mem_filter] at h;obtain⟨k,J,e⟩:=cj (bM h.1);have U:=tX G V k;rw[aj,aG J,gD,e] at U;have W:x≠0:=by simpa using h.2
 omega
theorem qJ.all(h:qJ X T own)(i:Nat)(J:i<32):(∀c∈zN T own i,c≠0/\c<256)/\(zN T own i).length<=45:=by
 unfold zN;rcases h.form i with ⟨-,-,z⟩|⟨-,z,U⟩
 ·refine⟨λc G=> ?_,?_⟩
  ·rcases aU.1 G with G|G
   ·exact z.mem c G
   ·exact pJ z.len z.right c G
  ·rw[aD]
   have h3:=z.ownLen;have V:=ui z.right;have W:(dn (nT T i)).length<=13:=zJ _ _;omega
 ·rw[(U J).1,z]
  have :dn cr=[]:=by decide
  rw[this];exact⟨λc G=>by simp at G,by simp⟩
theorem gN.all(h:gN w b gp B ps T own){i:Nat}(J:i<32):
  Calls prog 132 #[.pointer (some ⟨b,0,none⟩),.int .i64 (i:Int)] w λe w'=>∃v g,e= .returned v/\Reads w' v g (dE (zN T own i))/\az [] w w'/\(zN T own i≠[]->w.heap.size<=g):=by
 refine(abi h.sh h.w64 (i:Int)).mono ?_;rintro e w' ⟨v,g,l,rfl,W,hk,V,hg⟩;have e:l=zN T own i:=by
  unfold zN;rcases h.gots.form i with ⟨-,-,G⟩|⟨-,G,U⟩
  ·rcases V with ⟨n,o,z,rfl⟩|⟨z,-⟩
   ·obtain⟨e1,e2⟩:=G.uniq z
    rw[e1,e2]
   ·exact absurd G (z _ _)
  ·rcases V with ⟨n,o,z,-⟩|⟨-,rfl⟩
   ·exact absurd z ((U J).2 _ _)
   ·rw[(U J).1,G]
    rfl
 subst e;exact⟨v,g,rfl,W,hk,hg⟩
theorem MT {T:List (bP×Value)}{own:Nat->List Nat}(h:∀i,i<32->(zN T own i).length<=45):∀k b,k<=32->jQ T own k b<=45*k
 |0,_,_=>fC _
 |k+1,b,hk=>by
  have G:=MT h k b (by omega);have z:=h k (by omega);have J:(own k++dn (nT T k)).count b<=_:=List.count_le_length;unfold zN at z;show jQ T own k b+_<=_;omega
theorem DT {l:List Nat}{j:Nat}(z:j<l.length)(b:Nat):(l.take (j+1)).count b=if b=l.getD j 0 then (l.take j).count b+1 else (l.take j).count b:=by
 rw[bJ z,gK,List.count_singleton];have :l.getD j 0=l[j]:=by rw[aj,aG z];rfl
 rw[this];by_cases e:b=l[j]
 ·subst e;simp
 ·rw[aB e]
  simp;exact λh=>e h.symm
theorem Hl (h:gN w b gp B ps T own):
  Calls prog 86 #[.pointer (some ⟨b,0,none⟩)] w (dh w (Rv (aA B ps) T own)):=by
 have oo:Hid (∀U,az [] w U->∀i:Nat,i<32->Calls prog 132 #[.pointer (some ⟨b,0,none⟩),.int .i64 (i:Int)] U λe w'=>∃v g,e= .returned v/\Reads w' v g (dE (zN T own i))/\az [] U w'/\(zN T own i≠[]->U.heap.size<=g)):=λU hk i hi=>(h.keep0 hk).all hi
 have aa:Hid (∀U,az [] w U->∀c:Nat,c<256->Calls prog 133 #[.pointer (some ⟨b,0,none⟩),.int .i64 (c:Int)] U λe w'=>e= .returned (.bool (dC (aA B ps) c))/\U=w'):=λU hk c hc=>by
  have :=T9 (h.keep0 hk).sh h.w64 (c:Int);rwa[XP,aC (xa.2 ⟨by omega,by omega⟩),aH] at this
 have ai:Hid (∀i,i<32->(∀c∈zN T own i,c≠0/\c<256)/\(zN T own i).length<=45):=λi hi=>h.gots.all i hi
 have ak:Hid (∀k c,k<=32->jQ T own k c<=45*k):=MT λi hi=>(h.gots.all i hi).2
 have aD:Hid (∀k c,jQ T own (k+1) c=jQ T own k c+(zN T own k).count c):=λk c=>rfl
 have HP:Hid (∀(r:Bool) w',(r=true↔∀b:Nat,b<256->jQ T own 32 b<=1/\(dC (aA B ps) b=true↔jQ T own 32 b=1))->az [] w w'->dh w (Rv (aA B ps) T own) (.returned (.bool r)) w'):=λr w' hr hk=>⟨r,rfl,hr,hk⟩
 have aZ:=Ug;have oK:Hid (bh (w.alloc (.cells (dE (dI 256 λ_=>0)).toArray 189)) w.heap.size (dE (dI 256 λc=>jQ T own 0 c)).toArray 189):=bh.new w _ _;have fW:Hid (az [] w (w.alloc (.cells (dE (dI 256 λ_=>0)).toArray 189))):=(az.refl [] w).alloc _;clear h;generalize Rv (aA B ps) T own=pP at *;generalize aA B ps=X at *;generalize jQ T own=G at *;generalize zN T own=W at *;generalize (dE (dI 256 λ_=>0)).toArray=Z0 at *;go_enter func86,ntmps86;go_wp2_with fail;go_loopg [9] 32 (λgh s9 U=>∃k:Nat,k+gh=32/\s9= .int .i64 (k:Int)/\Hid (az [] w U/\bh U w.heap.size (dE (dI 256 λc=>G k c)).toArray 189))
 case atStart=>exact⟨0,by omega,rfl,fW.out,oK.out⟩
 case round=>
  clear oK fW;obtain⟨k,hk,rfl,J⟩:=hrel;cases gk with
  |succ gg=>
   have Bp:(k:Int)<32:=by omega
   have uo:k<32:=by omega
   have aL:=au (oo.out _ J.out.1 k uo);obtain⟨aM,aU⟩:=ai.out k uo;have aQ:=au aM;have KY:=au (λc=>ak.out k c (by omega));have aS:=J.out.2.lt;clear aM oo ai aa HP;go_wp2_with fail;refine aL.out.mono ?_;rintro e w3 ⟨v,g,rfl,hr,ar,hg⟩;obtain⟨a,cap,rfl,ag,aT,ah⟩:=hr;rw[fI] at ag ah ⊢;have aF:Hid (W k≠[]->g≠w.heap.size):=λh0=>by have :=hg h0;omega
   have DU:Hid (∀j,j<(W k).length->∃off,a=some ⟨g,off,none⟩/\g<w3.heap.size/\w3.cell? ⟨g,off+j,none⟩=some (.int .i64 (((W k).getD j 0:Nat):Int))/\g≠w.heap.size):=λj hj=>by
    have aP:W k≠[]:=λe=>by rw[e] at hj;simp at hj
    obtain⟨h1,off,h2,h3⟩:=ah (λe=>aP (by unfold dE at e;simpa using e));exact⟨off,h2,h1,by rw[h3 j hj,np hj],aF.out aP⟩
   have rb:Hid (bh w3 w.heap.size (dE (dI 256 λc=>G k c+((W k).take 0).count c)).toArray 189):=J.out.2.keep ar (by simp);have mV:=au (J.out.1.trans' ar);have ac:=au (λj hj=> @DT (W k) j hj);have mI:Hid (∀U,bh U w.heap.size (dE (dI 256 λc=>G k c+((W k).take (W k).length).count c)).toArray 189->bh U w.heap.size (dE (dI 256 λc=>G (k+1) c)).toArray 189):=λU hb=>by
    rw[rW (λc _=>aD.out k c)];rwa[gA] at hb
   have ax:Hid (∀j c,((W k).take j).count c<=45):=λj c=>cD List.count_le_length (by rw[aJ];omega)
   have ae:Hid (∀j,j<(W k).length->(W k).getD j 0<256):=λj hj=>(aQ.out _ (by rw[aj,aG hj];exact bA hj)).2
   clear ar hg ah ag aT J aL aF aQ aS;obtain⟨m,hm⟩:∃m,(W k).length=m:=⟨_,rfl⟩;rw[hm] at DU ac mI ae aU;rw[hm];clear hm;generalize W k=L at *;go_wp2_with fail;go_loopg [16] m (λgh s16 U=>∃j:Nat,j+gh=m/\s16= .int .i64 (j:Int)/\Hid (az [w.heap.size] w3 U/\bh U w.heap.size (dE (dI 256 λc=>G k c+(L.take j).count c)).toArray 189))
   case atStart=>exact⟨0,by omega,rfl,az.refl _ _,rb.out⟩
   case round=>
    clear rb;obtain⟨j,hj,rfl,J⟩:=hrel;cases gk with
    |zero=>
     obtain rfl:j=m:=by omega
     have HF:Hid (az [] w wr/\bh wr w.heap.size (dE (dI 256 λc=>G (k+1) c)).toArray 189):=⟨mV.out.trans J.out.1 (by intro x hx;rw[ay] at hx;omega),mI.out _ J.out.2⟩;clear J mI DU ac ax ae;go_wp2_with fail;go_roundg gg;case measure=>omega
     case rel=>exact⟨k+1,by omega,by go_num,HF.out⟩
    |succ g2=>
     have aK:j<m:=by omega
     have OL:(j:Int)<(m:Int):=by omega
     have BI:(0:Int)<=(j:Int):=by omega
     obtain⟨off,rfl,aW,d1,PS⟩:=DU.out j aK;have c1:wr.cell? ⟨g,off+j,none⟩=some (.int .i64 ((L.getD j 0:Nat):Int)):=(aO (a:=⟨g,off+j,none⟩) (J.out.1.block g aW (by simpa using PS))).trans d1;have hy:=ae.out j aK;have aI:=λc=>ac.out j (by omega) c
     have aR:=KY.out (L.getD j 0);have aV:=ax.out j (L.getD j 0);generalize L.getD j 0=y at *;have c2:=Kp J.out.2 (j:=y) hy;obtain⟨z,hz⟩:∃z,G k y+(L.take j).count y=z:=⟨_,rfl⟩;rw[hz] at c2;have ba:z<=1600:=by omega
     have KV:Hid (∀x:Int,x=((z+1:Nat):Int)->bh (wr.setCell ⟨w.heap.size,y,none⟩ (.int .i64 x)) w.heap.size (dE (dI 256 λc=>G k c+(L.take (j+1)).count c)).toArray 189):=λx hx=>MP J.out.2 y (λq hq=>by
      rw[aI q];by_cases e:q=y
      ·subst e;rw[aC rfl,aC rfl];omega
      ·rw[aB e,aB e]) (by rw[hx,hz])
     have f2:=J.out.2.frozen y;have nD:=au J.out.1;have bb:(0:Int)<=(y:Int):=by omega
     have aY:(y:Int)<256:=by omega
     clear J d1 aI hz aR aV DU ac ax ae;go_wp2_with fail;go_roundg g2;case measure=>omega
     case rel=>exact⟨j+1,by omega,by go_num,nD.out.setCell (.inl (by simp)) _,KV.out _ (by go_num)⟩
  |zero=>
   obtain rfl:k=32:=by omega
   have nD:=au J.out.1;have HL:Hid ((loadVar 189 ⟨w.heap.size,0,none⟩).run prog wr= .ok (.agg (dE (dI 256 λc=>G 32 c)).toArray) wr):=Ui J.out.2;have HZ:Hid (∀c,c<256->(dE (dI 256 λc=>G 32 c)).toArray[c]? =some (.int .i64 (G 32 c:Int))):=λc hc=>xE hc
   have av:=au (λc=>ak.out 32 c (by omega));clear J oo ai ak aD hk;generalize (dE (dI 256 λc=>G 32 c)).toArray=ZC at *;go_wp2_with(with_reducible refine gL 189 HL.out ?_);go_loopg [28] 256 (λgh s28 U=>wr=U/\∃c:Nat,c+gh=256/\s28= .int .i64 (c:Int)/\Hid (∀b:Nat,b<c->G 32 b<=1/\(dC X b=true↔G 32 b=1)))
   case atStart=>exact⟨rfl,0,by omega,rfl,λi hi=>by omega⟩
   case round=>
    obtain⟨rfl,c,hc,rfl,J⟩:=hrel;cases gk with
    |zero=>
     obtain rfl:c=256:=by omega
     have HF:=au (HP.out true _ ⟨λ_=>J.out,λ_=>rfl⟩ nD.out);clear J HP HZ av aa HL;go_wp2_with fail;go_ret;exact HF.out
    |succ g2=>
     have V:c<256:=by omega
     have N5:(c:Int)<256:=by omega
     have Bx:=lu 189 3 256 .i64 ZC c _ underlying189 underlying3 nR V (HZ.out c V);have af:=au (aa.out _ nD.out c V);have hm:=av.out c;have mI:Hid ((G 32 c<=1/\(dC X c=true↔G 32 c=1))->∀b:Nat,b<c+1->G 32 b<=1/\(dC X b=true↔G 32 b=1)):=λhh b hb=>by
      by_cases e:b=c
      ·rw[e];exact hh
      ·exact J.out b (by omega)
     have jC:Hid (¬(G 32 c<=1/\(dC X c=true↔G 32 c=1))->¬∀b:Nat,b<256->G 32 b<=1/\(dC X b=true↔G 32 b=1)):=λhh ha=>hh (ha c V)
     generalize dC X c=u at *;generalize G 32 c=z at *;clear J HZ av aa HL;by_cases h1:1<z
     ·have aX:(1:Int)<(z:Int):=by omega
      have HF:=au (HP.out false _ ⟨(λh=>by cases h),λhh=>absurd hh (jC.out λh=>by omega)⟩ nD.out);clear mI jC HP h1;go_wp2_with fail;go_ret;exact HF.out
     ·have aX:¬(1:Int)<(z:Int):=by omega
      by_cases hz:z=1
      ·subst hz
       cases u
       ·have HF:=au (HP.out false _ ⟨(λh=>by cases h),λhh=>absurd hh (jC.out λh=>by simp at h)⟩ nD.out)
        clear mI jC HP h1;go_wp2_with fail;refine af.out.mono ?_;rintro e w1 ⟨rfl,rfl⟩;go_wp2_with fail;go_ret;exact HF.out
       ·have HN:=au (mI.out ⟨by omega,by simp⟩)
        clear mI jC HP h1;go_wp2_with fail;refine af.out.mono ?_;rintro e w1 ⟨rfl,rfl⟩;go_wp2_with fail;go_roundg g2;case measure=>omega
        case rel=>exact⟨rfl,c+1,by omega,by go_num,HN.out⟩
      ·obtain rfl:z=0:=by omega
       cases u
       ·have HN:=au (mI.out ⟨by omega,by simp⟩)
        clear mI jC HP h1 hz;go_wp2_with fail;refine af.out.mono ?_;rintro e w1 ⟨rfl,rfl⟩;go_wp2_with fail;go_roundg g2;case measure=>omega
        case rel=>exact⟨rfl,c+1,by omega,by go_num,HN.out⟩
       ·have HF:=au (HP.out false _ ⟨(λh=>by cases h),λhh=>absurd hh (jC.out λh=>by simp at h)⟩ nD.out)
        clear mI jC HP h1 hz;go_wp2_with fail;refine af.out.mono ?_;rintro e w1 ⟨rfl,rfl⟩;go_wp2_with fail;go_ret;exact HF.out
end Go.Proofs.YtepbpdipenedhaaGreatDoor

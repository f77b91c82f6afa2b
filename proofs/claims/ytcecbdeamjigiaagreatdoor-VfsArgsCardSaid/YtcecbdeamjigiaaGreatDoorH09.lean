/- Lemmas. -/
import Derived.Test.YtcecbdeamjigiaaGreatDoorH08
import Derived.Deep.DeepCutAuto
set_option maxHeartbeats 8000000
set_option maxRecDepth 100000
namespace Go.Proofs.YtcecbdeamjigiaaGreatDoor
open Go.RowKit
variable{n:bM}{w:World}{own:List Nat}{p v:Value}{b g gp:Nat}{B:List Int}{ps:List (Int×Int)}
def kR (n:bM) (own:List Nat):List Int:=if n.K=2 then BV n own else ke n own
def fh (n:bM) (own:List Nat):List (List Int):=if n.K=2 then tz n.E own 4 else iF n
theorem vF (n:bM):∀k,kP n k=(if 6<(eB n.B).length then 1 else 0)+eL n.E k
 |0=>by rw[kP,eL];rfl
 |k+1=>by rw[kP,eL,vF n k,dN];omega
theorem Oz:eB (List.replicate 13 0)=[]:=by kernel_rfl
theorem qq (h:lM n):dU n=eL n.E 4:=by
 rw[dU,vF,h.2.2.1,Oz];simp
theorem od (h:mW n):dU n=if 6<(eB n.B).length then 1 else 0:=by
 have y:n.E=[]:=bg h.2.1;rw[dU,vF,y];rfl
theorem IA (n:bM)(own:List Nat):(ke n own).length=8:=by
 have h:=jM n.B 13;have y:(eB n.B).length<=13:=h;unfold ke;split
 ·simp;omega
 ·simp;omega
theorem xc (n:bM)(own:List Nat):(kR n own).length=8:=by
 unfold kR;split
 ·rfl
 ·exact IA n own
theorem OA (G:bP n):rR n.E:=by
 rcases G.2.2 with ⟨-,z⟩|⟨-,y⟩
 ·have :=z.2.1
  exact⟨by omega,λk h=>by omega,λk h=>by omega⟩
 ·have J:=y.1
  refine⟨by omega,λk h=> ?_,λk h=> ?_⟩
  ·have :=(ml (y.2.2.2 k h).1).2
   rw[jZ] at this;omega
  ·have :=(y.2.2.2 k h).2.1
   omega
theorem MR (n:bM)(v:Value)(g:Nat)(hB:n.B.length=13)(hR:bP n)(hE:bz w v g n.E)(vo:Value)(go:Nat)(own:List Nat)(hO:Reads w vo go (cW own))(ho:own.length=dU n)(rq:∀c∈own,c<256):
  Calls Tryz.prog 198 #[.agg (aU n v),vo] w (l8 w (kR n own) (fh n own)):=by
 have ht:=py hR;obtain⟨J,z⟩:∃J,J=(w.alloc (.cells (aU n v) 110)).alloc (.cells (aR (List.replicate 8 0)).toArray 188):=⟨_,rfl⟩;have U:bm J w.heap.size (aU n v) 110 :=by
  rw[z];exact(bm.new w _ _).alloc _
 have rW:bm J (w.heap.size+1) (aR (List.replicate 8 0)).toArray 188 :=by
  have :=bm.new (w.alloc (.cells (aU n v) 110)) (aR (List.replicate 8 0)).toArray 188;have e:(w.alloc (.cells (aU n v) 110)).heap.size=w.heap.size+1:=by simp
  rw[e,<-z] at this;exact this
 have ez:ay [] w J:=by
  rw[z];exact((ay.refl [] w).alloc _).alloc _
 have vv:=ar (cH U hB);have cK:J.cell? ⟨w.heap.size,1,none⟩=some (.int .i64 n.K):=by rw[U.cell];exact(jo v hB).f1
 have p8:=jd;have nv:=ar z;have fS:=ar ez;have KW:=ar rW;have tX:=xc n own;have lX:Hid (∀W vb gb,ay [] J W->l7 W vb gb (fh n own)->w.heap.size<=gb->gb≠w.heap.size+1->∃V,(storeVar 188 ⟨w.heap.size+1,0,none⟩ (.agg (aR (kR n own)).toArray)).run Tryz.prog W= .ok () V/\(loadVar 188 ⟨w.heap.size+1,0,none⟩).run Tryz.prog V= .ok (.agg (aR (kR n own)).toArray) V/\l8 w (kR n own) (fh n own) (.returned (.tuple #[.agg (aR (kR n own)).toArray,vb])) V):=λW vb gb hk hb hg ae=>by
  obtain⟨V,hS,ac,aa⟩:=br (P:= Tryz.prog) (ty:= 188) (cs:=aR (kR n own)) (by rw[bc,tX];exact gH) (rW.keep hk (by simp)) (by simp[bc,tX]) (eu _);exact⟨V,hS,ea ac tX,vb,gb,rfl,hb.keep aa (by intro _;simp;exact ae),hg,(ez.trans' hk).trans aa (by intro x hx;rw[au] at hx;omega)⟩
 have af:w.heap.size+1<J.heap.size:=rW.lt;by_cases hK:n.K=2
 ·have hd:lM n:=(hR.2.2.resolve_left (λh=>by have :=h.1;omega)).2
  have G:kR n own=BV n own:=aB hK;have y:fh n own=tz n.E own 4:=aB hK;have HD:=ar (KY n v g hB ht (hE.keep ez (by simp)) (OA hR) (by have :=hd.1;omega) vo go own (hO.keep ez (by simp)) (by rw[ho,qq hd]) rq);rw[<-G,<-y] at HD;rw[hK] at cK;rw[z] at cK;clear U rW ez z hE hO ho hR ht hd G y hK;generalize kR n own=RW at *;generalize fh n own=BW at *;generalize aU n v=Z at *;generalize sG:(aR (List.replicate 8 0)).toArray=Z8 at *;go_enter Tryz.func198,Tryz.ntmps198;go_wp2_with((with_reducible show wpList _ _ _ (⟨_,.load 110 (.tmp 2),_,_,_,_⟩::_) _ _);rw[<-nv.out];refine eU rfl 110 (.tmp 2) rfl _ rfl _ vv.out ?_);refine HD.out.mono ?_;rintro e W ⟨vb,gb,rfl,hb,hg,dc⟩;obtain⟨V,hS,hL,hM⟩:=lX.out W vb gb dc hb (by have :=fS.out.size;omega) (by omega);have HS:=ar hS;have HL:=ar hL;have HM:=ar hM;clear hS hL hM hb hg dc;go_wp2_with(with_reducible refine gS 188 HS.out ?_);exact aK (dn Tryz.results198 rfl HL.out rfl) rfl HM.out
 ·have hf:mW n:=(hR.2.2.resolve_right (λh=>hK h.1)).2
  have G:kR n own=ke n own:=aA hK;have y:fh n own=iF n:=aA hK;have HD:Hid (Calls Tryz.prog 215 #[.agg (aU n v),vo] J (l8 J (ke n own) (iF n))):=by
   have hn:=od hf;by_cases h6:(eB n.B).length<=6
   ·exact BR n v hB ht vo own h6
   ·rw[aB (by omega)] at hn
    refine FY n v hB ht vo go own (hO.keep ez (by simp)) ?_ (by omega) (by omega);exact rq _ (by rw[aj,aD (by omega:0<own.length)];exact bp _)
  rw[<-G,<-y] at HD;rw[z] at cK;have ag:(n.K==2)=false:=by simpa using hK
  clear U rW ez z hE hO ho hR ht hf G y;generalize kR n own=RW at *;generalize fh n own=BW at *;generalize n.K=K at *;generalize aU n v=Z at *;generalize sG:(aR (List.replicate 8 0)).toArray=Z8 at *;go_enter Tryz.func198,Tryz.ntmps198;go_wp2_with((with_reducible show wpList _ _ _ (⟨_,.load 110 (.tmp 2),_,_,_,_⟩::_) _ _);rw[<-nv.out];refine eU rfl 110 (.tmp 2) rfl _ rfl _ vv.out ?_);refine HD.out.mono ?_;rintro e W ⟨vb,gb,rfl,hb,hg,dc⟩;obtain⟨V,hS,hL,hM⟩:=lX.out W vb gb dc hb (by have :=fS.out.size;omega) (by omega);have HS:=ar hS;have HL:=ar hL;have HM:=ar hM;clear hS hL hM hb hg dc;go_wp2_with(with_reducible refine gS 188 HS.out ?_);exact aK (dn Tryz.results198 rfl HL.out rfl) rfl HM.out
def ma (X R:List Int) (n:bM) (own:List Nat):Prop:=
 (∀k,k<own.length->(fh n own).getD k []=dy X (1080+8*own.getD k 0))/\kR n own=R
theorem tD (U:bP n)(z:own.length=dU n):(fh n own).length=own.length:=by
 unfold fh;rcases U.2.2 with ⟨y,G⟩|⟨y,J⟩
 ·rw[aA (by omega),z,od G,iF]
  by_cases h:(eB n.B).length<=6
  ·rw[aB h,aA (by omega)];rfl
  ·rw[aA h,aB (by omega)];rfl
 ·rw[aB y,lG,z,qq J]
theorem ru{k:Nat}(y:k<(fh n own).length):((fh n own).getD k []).length=8:=by
 unfold fh at *;by_cases z:n.K=2
 ·rw[aB z] at y ⊢
  rw[lG] at y;obtain⟨b,j,G,U,rfl⟩:=qh n.E y;rw[oa n.E own U G];exact Sc (by rw[iZ,kF];omega) _
 ·rw[aA z] at y ⊢
  unfold iF at *;have J:(eB n.B).length<=13:=jM n.B 13;by_cases h:(eB n.B).length<=6
  ·rw[aB h] at y;simp at y
  ·rw[aA h] at y ⊢
   obtain rfl:k=0:=by simpa using y
   simp;omega
theorem zB{Ls:List (List Int)}(h:l7 w v g Ls){k:Nat}(U:k<Ls.length)(G:(Ls.getD k []).length=8):
  ∃off cap,v= .slice (some ⟨g,off,none⟩) Ls.length cap/\g<w.heap.size/\∀y,y.heap[g]? =w.heap[g]? ->(loadVar 188 ⟨g,off+k*8,none⟩).run Tryz.prog y= .ok (.agg (aR (Ls.getD k [])).toArray) y:=by
 obtain⟨a,cap,J,h2,h3,W⟩:=h;obtain⟨hg,off,rfl,V⟩:=W (by omega);refine⟨off,cap,J,hg,λy Z=>bT g (off+k*8) (aR (Ls.getD k [])) Tryz.underlying188 rfl (by rw[bc,G];exact gH) λj z=> ?_⟩;rw[bc,G] at z;rw[aL (w:=w) (a:=⟨g,off+k*8+j,none⟩) Z,V k U j z,cC (by rw[G];exact z)]
theorem OB (K1:eF w b gp B ps)(n:bM)(v:Value)(g:Nat)(hB:n.B.length=13)(hR:bP n)(hE:bz w v g n.E)(vo:Value)(go:Nat)(own:List Nat)(hO:Reads w vo go (cW own))(ho:own.length=dU n)(rq:∀c∈own,c<256){R:List Int}(aG:R.length=8):
  Calls Tryz.prog 197 #[.pointer (some ⟨b,0,none⟩),.agg (aR R).toArray,.agg (aU n v),vo] w λe w'=>∃t:Bool,e= .returned (.bool t)/\(t=true↔ma (az B ps) R n own)/\ay [] w w':=by
 obtain⟨ao,co,rfl,Ir,aN,VH⟩:=oJ hO;obtain⟨W0,J⟩:∃W0,W0=(w.alloc (.cells (aR R).toArray 188)).alloc (.cells (aU n v) 110):=⟨_,rfl⟩;have pE:bm W0 w.heap.size (aR R).toArray 188 :=by
  rw[J];exact(bm.new w _ _).alloc _
 have AE:bm W0 (w.heap.size+1) (aU n v) 110 :=by
  have :=bm.new (w.alloc (.cells (aR R).toArray 188)) (aU n v) 110;have e:(w.alloc (.cells (aR R).toArray 188)).heap.size=w.heap.size+1:=by simp
  rw[e] at this;rw[J];exact this
 have ez:ay [] w W0:=by
  rw[J];exact((ay.refl _ _).alloc _).alloc _
 have vv:=ar (cH AE hB);have VT:=ar (MR n v g hB hR (hE.keep ez (by simp)) (.slice ao own.length co) go own (hO.keep ez (by simp)) ho rq);have aC:=tD hR ho;have K2:Hid (∀k,k<own.length->((fh n own).getD k []).length=8):=λk hk=>ru (by omega)
 have tX:=xc n own;have p8:=jd;have nM:own.length<=4001:=by
  rw[ho]
  have :=yl n (by rcases hR.2.2 with ⟨-,hf⟩|⟨-,hd⟩;·have :=hf.2.1;omega
                  ·have :=hd.1;omega) 4
  unfold dU;have h2:=hR.2.2;rcases h2 with ⟨-,hf⟩|⟨-,hd⟩
  ·have :=od hf
   unfold dU at this;rw[this];split<;>omega
  ·have h3:=qq hd
   have Ka:=hd.1;unfold dU at h3;rw[h3];have e0:=iI n.E 0;have e1:=iI n.E 1;have e2:=iI n.E 2;have e3:=iI n.E 3;simp only[eL,dN];omega
 have ac:Hid (∀t,(t=true↔ma (az B ps) R n own)↔(t=true↔((∀k,k<own.length->(fh n own).getD k []=dy (az B ps) (1080+8*own.getD k 0))/\kR n own=R))):=λt=>Iff.rfl
 have xI:=ar (K1.keep ez (by simp) (by simp));have nv:=ar J;have fS:=ar ez;have VC:=ar pE;have Sl:Hid (∀k,k<own.length->own.getD k 0<256):=λk hk=>rq _ (by rw[aj,aD hk];exact bp hk)
 have yo:=ar aG;have aI:W0.heap.size=w.heap.size+1+1:=by rw[J];simp
 clear pE AE ez J hE hO hR ho rq hB K1;generalize aw:kR n own=RW at *;generalize ax:fh n own=BW at *;generalize aU n v=Z at *;generalize UB:(aR R).toArray=ZR at *;have ap:=ar UB;generalize sG:(aR (List.replicate 8 0)).toArray=Z8 at *;have xH:=ar sG;clear aw ax UB sG;generalize hn:own.length=nn at *;have HN:=ar hn;clear hn;go_enter Tryz.func197,Tryz.ntmps197;go_wp2_with((with_reducible show wpList _ _ _ (⟨_,.load 110 (.tmp 6),_,_,_,_⟩::_) _ _);rw[<-nv.out];refine eU rfl 110 (.tmp 6) rfl _ rfl _ vv.out ?_);refine VT.out.mono ?_;rintro e w1 ⟨vb,gb,rfl,hb,hg,dc⟩;obtain⟨w2,aq,MJ,ae⟩:=br (P:= Tryz.prog) (ty:= 188) (cs:=aR RW) (by rw[bc,tX];exact gH) (bm.new w1 Z8 188) (by rw[<-xH.out];simp[bc,tX]) (eu _);have aB:=dc.size;have Ak:=ar aq;have fj:Hid (ay [] W0 w2):=(dc.alloc (.cells Z8 188)).trans ae (by intro x z;rw[au] at z;omega);have XM:=ar MJ;have av:Hid (l7 w2 vb gb BW):=by
  obtain⟨a,cap,q1,q2,q3,q4⟩:=hb;refine l7.keep (l:=[w1.heap.size]) ⟨a,cap,q1,q2,q3,q4⟩ (((ay.refl [w1.heap.size] w1).alloc (.cells Z8 188)).trans' ae) λh0 hm=> ?_
  have :=(q4 h0).1;rw[au] at hm;omega
 clear aq MJ ae dc hb hg aB;generalize aM:w1.heap.size=g9 at *;go_wp2_with(with_reducible refine gS 188 Ak.out ?_);go_loopg [21] nn (λgh s21 y=>∃k:Nat,k+gh=nn/\s21= .int .i64 (k:Int)/\Hid ((∀j,j<k->BW.getD j []=dy (az B ps) (1080+8*own.getD j 0))/\ay [] w2 y))
 case atStart=>exact⟨0,by omega,rfl,λj hj=>by omega,ay.refl _ _⟩
 case round=>
  obtain⟨k,hk,rfl,HP⟩:=hrel;obtain⟨G,U⟩:=HP.out;cases gk with
  |zero=>
   obtain rfl:k=nn:=by omega
   have Oc:=ar (ea (XM.out.keep U (by simp)) tX);have Ey:Hid ((loadVar 188 ⟨w.heap.size,0,none⟩).run Tryz.prog wr= .ok (.agg ZR) wr):=by
    have :=(VC.out.keep fj.out (by simp)).keep U (by simp);rw[<-ap.out] at this ⊢;exact ea this yo.out
   have W:=λy=>El (a:=RW) (b:=R) tX yo.out y
   have VF:=pZ;rw[ap.out] at W;obtain⟨t,ht⟩:∃t,decide (RW=R)=t:=⟨_,rfl⟩;rw[ht] at W;have HF:Hid (∃t':Bool,Ending.returned (.bool t)= .returned (.bool t')/\(t'=true↔ma (az B ps) R n own)/\ay [] w wr):=by
    refine⟨t,rfl,(ac.out t).2 ?_,fS.out.trans' (fj.out.trans' U)⟩;rw[<-ht,decide_eq_true_iff];exact⟨λh=>⟨G,h⟩,λh=>h.2⟩
   have aK:=W;clear G U HP ht W;generalize (aR RW).toArray=ZW at *;go_wp2_with(first|(with_reducible refine gL 188 Oc.out ?_)|(with_reducible refine gL 188 Ey.out ?_));go_ret;exact HF.out
  |succ gg=>
   have xG:k<nn:=by omega
   have aH:(k:Int)<(nn:Int):=by omega
   have ez:(0:Int)<=(k:Int):=by omega
   obtain⟨ak,KX,rfl,Zd⟩:=VH.out k xG;have c0:=(aL (w:=w) (w':=wr) (a:=⟨go,KX+k,none⟩) ((fS.out.trans' (fj.out.trans' U)).block go ak (by simp))).trans Zd;have z:=Sl.out k xG;obtain⟨off,cap,rfl,af,ny⟩:=zB av.out (k:=k) (by omega) (K2.out k xG);rw[aC] at *;have nJ:Hid (∀y,ay [] wr y->(loadVar 188 ⟨gb,off+k*8,none⟩).run Tryz.prog y= .ok (.agg (aR (BW.getD k [])).toArray) y):=λy K3=>ny y ((U.trans' K3).block gb af (by simp))
   obtain⟨x,aa⟩:∃x,x=own.getD k 0:=⟨_,rfl⟩;rw[<-aa] at z c0;have Dg:=ar (λy=>jm (x:Int) y);have Af:Hid (gV (x:Int)=((1080+8*x:Nat):Int)):=by
    show _=_;rw[gV,aA (by omega)];omega
   rw[Af.out] at Dg;have j1:Hid (∀y,ay [] wr y->Calls Tryz.prog 138 #[.pointer (some ⟨b,0,none⟩),.int .i64 ((1080+8*x:Nat):Int)] y λe w'=>e= .returned (.agg (aR (dy (az B ps) (1080+8*x))).toArray)/\ay [] y w'):=λy K3=>
    l6 (((xI.out.keep fj.out (by simp) (by simp)).keep U (by simp) (by simp)).keep K3 (by simp) (by simp)) (1080+8*x) (by omega)
   have W:=λy=>El (a:=BW.getD k []) (b:=dy (az B ps) (1080+8*x)) (K2.out k xG) (fQ _ _) y
   have VF:=pZ;obtain⟨t,ht⟩:∃t,decide (BW.getD k []=dy (az B ps) (1080+8*x))=t:=⟨_,rfl⟩;rw[ht] at W;have Ad:=ar G;have gI:=ar U;have HT:Hid (t=true↔BW.getD k []=dy (az B ps) (1080+8*own.getD k 0)):=by
    show _↔_;rw[<-ht,decide_eq_true_iff,aa]
   have Za:=W;clear G U HP Zd ak af ny av ht z aa Af W;generalize aF:((1080+8*x:Nat):Int)=px at *;generalize Iy:(x:Int)=xi at *;generalize (aR (BW.getD k [])).toArray=ZQ at *;generalize (aR (dy (az B ps) (1080+8*x))).toArray=ZP at *;clear aF Iy;cases t;all_goals
    go_wp2_with fail;refine dv (S:=λy=>ay [] wr y) (by kernel_rfl) (by kernel_rfl) (λd _ _ _ _ h=>by cases d<;>exact h) ((ay.refl _ _).drew) (by kernel_rfl) ?_;repeat (first
     |(refine aJ.cons (.agg ZQ) (ba.load rfl 188 (.tmp 28) rfl _ rfl λy z=>nJ.out y z) ?_;simp only[Act.put,ag,ah,ai])
     |(refine aJ.cons (.int .i64 px) (ba.call rfl 146 #[.int .i64 xi] ?V ?h) ?_;(case V=>(intro wz;go_simp));(case h=>exact λy z=>(Dg.out y).mono λe w' V=>⟨V.1,V.2▸z⟩);simp only[Act.put,ag,ah,ai])
     |(refine aJ.cons (.agg ZP) (ba.call rfl 138 #[.pointer (some ⟨b,0,none⟩),.int .i64 px] ?V ?h) ?_;(case V=>(intro wz;go_simp));(case h=>exact λy z=>(j1.out y z).mono λe w' V=>⟨V.1,z.trans' V.2⟩);simp only[Act.put,ag,ah,ai])
     |(refine aJ.cons ?_ (ba.val rfl ?h) ?_;(case h=>(intro y z;clear z;go_simp;rfl));simp only[Act.put,ag,ah,ai]))
    refine aJ.done λwz z=> ?_
    have Ah:=ar z;clear z
   ·have HF:Hid (∃t':Bool,Ending.returned (.bool false)= .returned (.bool t')/\(t'=true↔ma (az B ps) R n own)/\ay [] w wz):=by
     refine⟨false,rfl,(ac.out false).2 ⟨λh=>(by cases h),λh=> ?_⟩,fS.out.trans' (fj.out.trans' (gI.out.trans' Ah.out))⟩;have :=HT.out.2 (h.1 k xG);cases this
    go_wp2_with fail;go_ret;exact HF.out
   ·have HN:Hid ((∀j,j<k+1->BW.getD j []=dy (az B ps) (1080+8*own.getD j 0))/\ay [] w2 wz):=by
     refine⟨λj hj=> ?_,gI.out.trans' Ah.out⟩;by_cases e:j=k
     ·subst e;exact HT.out.1 (by trivial)
     ·exact Ad.out j (by omega)
    clear Ad HT ac;go_wp2_with fail;go_roundg gg;case measure=>omega
    case rel=>exact⟨k+1,by omega,by go_num,HN.out⟩
theorem yw (n:bM)(own:List Nat):(kR n own).getD 0 0=lN n/\(kR n own).getD 1 0=n.S:=by
 unfold kR;split
 ·exact⟨rfl,rfl⟩
 ·unfold ke
  split<;>exact⟨rfl,rfl⟩
theorem IB (l:List (ByteArray×Int))(j y:Nat)(W:y<7):(dR (tZ l j)).getD y 0=if 3*j+y/2<l.length/\y<6 then (if y%2=0 then ((iY (bl (eh l (3*j+y/2))):Nat):Int) else gT l (3*j+y/2)) else 0:=by
 by_cases h:3*j+y/2<l.length/\y<6
 ·rw[aB h]
  have G:y/2<(tZ l j).length:=by rw[kF];omega
  obtain⟨-,V,U⟩:=AG l j (y/2) G;have z:=rh (tZ l j) (y/2) G;rcases (show y%2=0\/y%2=1 by omega) with J|J
  ·rw[aB J,<-V,<-z.1,show y/2*2=y by omega]
  ·rw[aA (by omega),<-U,<-z.2,show y/2*2+1=y by omega]
 ·rw[aA h,aj,aO (by rw[iZ,kF];omega)]
  rfl
theorem Sm (h:n.K=2){b:Nat}(y:b<4):(kR n own).getD (2+b) 0=hdD n.E own b/\(kR n own).getD 6 0=0/\(kR n own).getD 7 0=0:=by
 unfold kR;rw[aB h];refine⟨?_,rfl,rfl⟩;rcases (show b=0\/b=1\/b=2\/b=3 by omega) with rfl|rfl|rfl|rfl<;>rfl
def Dv (i:Int) (n:bM):Prop:=(0<=i/\i<32)/\n.F=1/\bP n
instance (i:Int) (n:bM):Decidable (Dv i n):=by unfold Dv;infer_instance
theorem VU (i:Int)(n:bM)(v:Value)(g:Nat)(W:n.B.length=13)(hE:bz w v g n.E)(hN:∀k,k<n.E.length->(eh n.E k).size<=9223372036854775807)(J:¬Dv i n):
  Calls Tryz.prog 169 #[p,.int .i64 i,.agg (aU n v)] w λe w'=>e= .returned (.int .i64 1)/\ay [] w w':=by
 have uM:Hid (∀U,ay [] w U->Calls Tryz.prog 94 #[.agg (aU n v)] U λe w'=>e= .returned (.bool (decide (bP n)))/\ay [] U w'):=λU hk=>kV n v g W U (hE.keep hk (by simp)) hN
 have G:=jo v W;have y:=bm.new w (aU n v) 110;have HL:=ar (cH y W);have V:=ar (ja i);generalize aU n v=Z at *;have c0:(w.alloc (.cells Z 110)).cell? ⟨w.heap.size,0,none⟩=some (.int .i64 n.F):=by rw[y.cell];exact G.f0
 have HK:Hid (ay [] w (w.alloc (.cells Z 110))):=(ay.refl [] w).alloc _;have jr:=ar J;clear y G hE hN W J;by_cases hi:i<0\/32<=i
 ·have z:eZ i= -1:=by unfold eZ;rw[aB hi]
  rw[z] at V;clear z;go_enter Tryz.func169,Tryz.ntmps169;go_wp2_with fail;refine(V.out _).mono ?_;rintro e w' ⟨rfl,rfl⟩;go_wp2_with fail;go_ret;exact⟨rfl,HK.out⟩
 ·have z:eZ i=((824+8*i.toNat:Nat):Int):=by unfold eZ;rw[aA hi];omega
  rw[z] at V;have MS:(0:Int)<=((824+8*i.toNat:Nat):Int):=by omega
  generalize ((824+8*i.toNat:Nat):Int)=q at *;clear z;by_cases hF:n.F=1
  ·have HQ:Hid (decide (bP n)=false):=aT λh=>jr.out ⟨by omega,hF,h⟩
   rw[hF] at c0;rw[HQ.out] at uM;go_enter Tryz.func169,Tryz.ntmps169;go_wp2_with fail;refine(V.out _).mono ?_;rintro e w' ⟨rfl,rfl⟩;go_wp2_with((with_reducible show wpList _ _ _ (⟨_,.load 110 (.tmp 5),_,_,_,_⟩::_) _ _);refine dC (by simp[Region.wanted,yielded,MS]) 110 (.tmp 5) rfl _ rfl _ HL.out ?_);refine(uM.out _ HK.out).mono ?_;rintro e w1 ⟨rfl,dc⟩;have iH:=ar (HK.out.trans' dc);clear dc;go_wp2_with fail;go_ret;exact⟨rfl,iH.out⟩
  ·have aa:(n.F != 1)=true:=bne_iff_ne.2 hF
   generalize n.F=f at *;go_enter Tryz.func169,Tryz.ntmps169;go_wp2_with fail;refine(V.out _).mono ?_;rintro e w' ⟨rfl,rfl⟩;go_wp2_with fail;go_ret;exact⟨rfl,HK.out⟩
theorem OC (h:eF w b gp B ps)(eT:dD (az B ps))(i:Int)(n:bM)(v:Value)(g:Nat)(U:n.B.length=13)(hE:bz w v g n.E)(hN:∀k,k<n.E.length->(eh n.E k).size<=9223372036854775807)
  (G:Dv i n) (Sn:(bb (az B ps)).length<dX n):
  Calls Tryz.prog 169 #[.pointer (some ⟨b,0,none⟩),.int .i64 i,.agg (aU n v)] w λe w'=>e= .returned (.int .i64 7)/\ay [] w w':=by
 have uM:Hid (∀y,ay [] w y->Calls Tryz.prog 94 #[.agg (aU n v)] y λe w'=>e= .returned (.bool true)/\ay [] y w'):=λy J=>by
  have :=kV n v g U y (hE.keep J (by simp)) hN;rwa[bj G.2.2] at this
 have aa:=(iA G.2.2).1;have xd:Hid (∀y,Calls Tryz.prog 191 #[.agg (aU n v)] y λe w'=>e= .returned (.int .i64 ((dX n:Nat):Int))/\ay [] y w'):=λy=>by
  obtain⟨a,cap,rfl,-⟩:=hE;exact ME n a cap U (by omega) y
 have K4:Hid (∀y,ay [] w y->Calls Tryz.prog 148 #[.pointer (some ⟨b,0,none⟩),.int .i64 ((dX n:Nat):Int)] y λe w'=>e= .returned (.tuple #[.slice none 0 0,.int .i64 7])/\y=w'):=λy J=>
  zA (h.keep J (by simp) (by simp)) eT (dX n) Sn
 have V:=jo v U;have z:=bm.new w (aU n v) 110;have HL:Hid (∀y,ay [] (w.alloc (.cells (aU n v) 110)) y->(loadVar 110 ⟨w.heap.size,0,none⟩).run Tryz.prog y= .ok (.agg (aU n v)) y):=λy J=>cH (z.keep J (by simp)) U
 have HI:=ar (ja i);generalize aU n v=Z at *;have c0:(w.alloc (.cells Z 110)).cell? ⟨w.heap.size,0,none⟩=some (.int .i64 1):=by rw[z.cell,<-G.2.1];exact V.f0
 have HK:Hid (ay [] w (w.alloc (.cells Z 110))):=(ay.refl [] w).alloc _;have k6:eZ i=((824+8*i.toNat:Nat):Int):=by unfold eZ;rw[aA (by have :=G.1;omega)];have :=G.1;omega
 rw[k6] at HI;have MS:(0:Int)<=((824+8*i.toNat:Nat):Int):=by omega
 generalize ((824+8*i.toNat:Nat):Int)=q at *;clear z V hE hN U k6 G h eT Sn;have BD:=ar (HL.out _ (ay.refl [] _));generalize ((dX n:Nat):Int)=nn at *;go_enter Tryz.func169,Tryz.ntmps169;go_wp2_with fail;refine(HI.out _).mono ?_;rintro e w' ⟨rfl,rfl⟩;go_wp2_with((with_reducible show wpList _ _ _ (⟨_,.load 110 (.tmp 5),_,_,_,_⟩::_) _ _);refine dC (by simp[Region.wanted,yielded,MS]) 110 (.tmp 5) rfl _ rfl _ BD.out ?_);refine(uM.out _ HK.out).mono ?_;rintro e w1 ⟨rfl,dc⟩;have iH:=ar (HK.out.trans' dc);have qQ:=ar (HL.out _ dc);clear dc;go_wp2_with(with_reducible refine gL 110 qQ.out ?_);refine(xd.out _).mono ?_;rintro e w2 ⟨rfl,W⟩;have fj:=ar (iH.out.trans' W);clear W;go_wp2_with fail;refine(K4.out _ fj.out).mono ?_;rintro e w3 ⟨rfl,rfl⟩;go_wp2_with fail;go_ret;exact⟨rfl,fj.out⟩
def w4 (ws:List Nat):Array Value:= #[.int .u64 ((ws.getD 0 0:Nat):Int),.int .u64 ((ws.getD 1 0:Nat):Int),.int .u64 ((ws.getD 2 0:Nat):Int),.int .u64 ((ws.getD 3 0:Nat):Int)]
theorem OD{l:List Nat}(h:Reads w v g (cW l)):∃a cap,v= .slice a l.length cap/\l.length<=cap/\cap<=maxLen/\
  Hid (∀k,k<l.length->g<w.heap.size/\∃off,a=some ⟨g,off,none⟩/\w.cell? ⟨g,off+k,none⟩=some (.int .i64 ((l.getD k 0:Nat):Int))):=by
 obtain⟨a,cap,z,J,G,V⟩:=h;rw[fO] at *;refine⟨a,cap,z,J,G,λk y=> ?_⟩;obtain⟨Z,off,W,U⟩:=V (by intro e;have :=ck List.length e;rw[fO,cp] at this;omega);exact⟨Z,off,W,(U k y).trans (mV y)⟩
theorem VV{P:Program}{ty e:TypeId}{off T:Nat}{Z:Array Value}(G:P.underlying ty=some (.slice e))(y:bm w g Z T)(J:Z[off]? =some v):(loadVar ty ⟨g,off,none⟩).run P w= .ok v w:=by
 have h:(isAgg ty).run P w= .ok false w:=by
  unfold isAgg;rw[bV,cY G w];rfl
 have z:w.cell? ⟨g,off,none⟩=some v:=by rw[y.cell,J]
 simp[loadVar,h,z]
theorem Zt (h:eF w b gp B ps)(eT:dD (az B ps))(hT:kI w)(Df:gp<w.heap.size)(pn:ps.length<=800000)(i:Int)(n:bM)(v:Value)(g:Nat)(hB:n.B.length=13)(hE:bz w v g n.E)
  (hN:∀k,k<n.E.length->(eh n.E k).size<=9223372036854775807) (gW:Dv i n) (ue:n.E.length≠0->g≠b/\g≠gp) (hn:dX n<=(bb (az B ps)).length):
  Calls Tryz.prog 169 #[.pointer (some ⟨b,0,none⟩),.int .i64 i,.agg (aU n v)] w λe w'=>e= .returned (.int .i64 0)/\ij w b gp B (ps++l9 (az B ps) i.toNat n ((bb (az B ps)).take (dX n))) w':=by
 have uM:Hid (∀y,ay [] w y->Calls Tryz.prog 94 #[.agg (aU n v)] y λe w'=>e= .returned (.bool true)/\ay [] y w'):=λy V=>by
  have :=kV n v g hB y (hE.keep V (by simp)) hN;rwa[bj gW.2.2] at this
 have bo:=iA gW.2.2;have xd:Hid (∀y,Calls Tryz.prog 191 #[.agg (aU n v)] y λe w'=>e= .returned (.int .i64 ((dX n:Nat):Int))/\ay [] y w'):=λy=>by
  obtain⟨a,cap,rfl,-⟩:=hE;exact ME n a cap hB (by omega) y
 have Uy:Hid (∀y,Calls Tryz.prog 189 #[.agg (aU n v)] y λe w'=>e= .returned (.int .i64 ((aZ n.E.length:Nat):Int))/\ay [] y w'):=λy=>by
  obtain⟨a,cap,rfl,-⟩:=hE;exact oD n a cap hB (by omega) y
 have xS:=xX (az B ps);have K4:Hid (∀y,ay [] w y->Calls Tryz.prog 148 #[.pointer (some ⟨b,0,none⟩),.int .i64 ((dX n:Nat):Int)] y (xb y b gp B ps ((bb (az B ps)).take (dX n)))):=λy V=>
  EC (h.keep V (by simp) (by simp)) eT (hT.keep V) (bC Df V.size) (by omega) (dX n) hn
 have Ay:Hid (∀c∈(bb (az B ps)).take (dX n),c≠0/\c<256):=λc hc=>by
  have :=iX.1 (bA hc);exact⟨this.2.1,this.1⟩
 have ap:((bb (az B ps)).take (dX n)).length=dX n:=by rw[aI,cy hn]
 have MM:aZ n.E.length<=dX n/\dX n<=aZ n.E.length+1:=by unfold dX;split<;>omega
 have aH:=jo v hB;have av:=bm.new w (aU n v) 110;have bS:=h.raw.lt;have HI:=ar (ja i);have bE:=ar (py gW.2.2);have bc:=ar (Iz gW.2.2 hN);have HR:=ar gW.2.2;have HB:=ar hB;have XU:Hid (∀(l:List Int) (W:Int),l.length=13->YS l->0<=W/\W<9223372036854775808->∀y,Calls Tryz.prog 190 #[.agg (aU n v),.agg (zs l).toArray,.int .i64 W] y λe w'=>e= .returned (.agg (aR (fE n l W)).toArray)/\ay [] y w'):=λl W hl QK h0 y=>zq n v hB bE.out l hl QK W h0 y
 have n5:Hid (∀y,bm y w.heap.size (aU n v) 110->(loadVar 110 ⟨w.heap.size,0,none⟩).run Tryz.prog y= .ok (.agg (aU n v)) y/\(loadVar 108 ⟨w.heap.size,4,none⟩).run Tryz.prog y= .ok (.agg (zs n.B).toArray) y):=λy hb=>⟨cH hb hB,Zr hb hB⟩
 have Dw:Hid (l9 (az B ps) i.toNat n ((bb (az B ps)).take (dX n))=cL (az B ps) ((bb (az B ps)).take (dX n))++rr i.toNat n ((bb (az B ps)).take (dX n))):=rfl;have yj:Hid ((cL (az B ps) ((bb (az B ps)).take (dX n))).length=9*dX n):=by
  show _=_;rw[oA _ _ Ay.out,ap]
 generalize nM:(bb (az B ps)).take (dX n)=own at *;generalize l9 (az B ps) i.toNat n own=aL at *;generalize Sq:cL (az B ps) own=Sr at *;have Zu:=ar Sq;clear Sq;have aM:eZ i=((824+8*i.toNat:Nat):Int):=by unfold eZ;rw[aA (by have :=gW.1;omega)];have :=gW.1;omega
 rw[aM] at HI;have jt:i.toNat<32:=by have :=gW.1;omega
 have c0:(w.alloc (.cells (aU n v) 110)).cell? ⟨w.heap.size,0,none⟩=some (.int .i64 1):=by rw[av.cell,<-gW.2.1];exact aH.f0
 generalize hZ:aU n v=Z at *;have bB:Z[17]? =some v:=aH.f5;have HK:Hid (ay [] w (w.alloc (.cells Z 110))):=(ay.refl [] w).alloc _;have nu:=ar av;have HE:=ar hE;have HS:=ar h;have zY:=ar pn;have BD:=ar (n5.out _ av).1;generalize hq:824+8*i.toNat=q at *;have HQ:Hid (q=824+8*i.toNat):=hq.symm;have bH:q+8<=3128:=by omega
 clear hq jt;have MS:(0:Int)<=(q:Int):=by omega
 clear av aH hE hN hB aM h eT hT xS hn nM pn;go_enter Tryz.func169,Tryz.ntmps169;go_wp2_with fail;refine(HI.out _).mono ?_;rintro e w' ⟨rfl,rfl⟩;go_wp2_with((with_reducible show wpList _ _ _ (⟨_,.load 110 (.tmp 5),_,_,_,_⟩::_) _ _);refine dC (by simp[Region.wanted,yielded,MS]) 110 (.tmp 5) rfl _ rfl _ BD.out ?_);refine(uM.out _ HK.out).mono ?_;rintro e w1 ⟨rfl,dc⟩;have iH:=ar (HK.out.trans' dc);have qa:=ar (nu.out.keep dc (by simp));have qQ:=ar (n5.out _ qa.out).1;clear dc BD nu HK;go_wp2_with(with_reducible refine gL 110 qQ.out ?_);refine(xd.out _).mono ?_;rintro e w2 ⟨rfl,J⟩;have fj:=ar (iH.out.trans' J);have nY:=ar (qa.out.keep J (by simp));clear J iH qa qQ xd uM;go_wp2_with fail;refine(K4.out _ fj.out).mono ?_;rintro e w3 ⟨vo,go,rfl,aT,bT,bK,lv,Zv,bU,aK,ak⟩;rw[Zu.out] at aK;have aO:=fj.out.size;have bI:=nY.out.lt;have qb:=ar (nY.out.keep ak (by simp only[aS,aV,bL];omega));have aN:Hid (bz w3 v g n.E):=(HE.out.keep fj.out (by simp)).keep ak (λbv=>by have :=ue bv;simp only[aS,aV,bL];omega);have lS:Hid (ay [b,gp] w w3):=(fj.out.mono (by simp)).trans' ak;have uf:=ar aK;have BU:=ar aT;have zC:=ar (n5.out _ qb.out).1;have bJ:=ak.size;obtain⟨a,oc,rfl,IC,Dx,-⟩:=aT;have a7:Hid ((cW own).length=dX n):=by show _=_;rw[fO,ap]
 rw[a7.out] at IC BU ⊢;have Ss:Hid (n.E.length≠0->g∉[b,lv]):=λh0 hm=>by
  have h1:=ue h0;have h2:g<w.heap.size:=by
   rcases dr g w.heap.size with h|h
   ·exact h
   ·exact absurd (au.2 rfl) (HE.out.apart (l:=[g]) (λx z=>by rw[au] at z;omega) h0)
  simp only[aS,aV,bL] at hm;rcases hm with rfl|rfl
  ·exact h1.1 rfl
  ·omega
 clear K4 fj nY HE HS ak aK;have N9:=lV;go_wp2_with(with_reducible refine gL 110 zC.out ?_);refine(Uy.out _).mono ?_;rintro e w4 ⟨rfl,ac⟩;have xe:=ar (qb.out.keep ac (by simp));have Su:=ar (aN.out.keep ac (by simp));have nK:=ar (lS.out.trans' (ac.mono (by simp)));have wj:=ar (uf.out.keep ac (by simp) (by simp));have Zw:=ar (BU.out.keep ac (by simp));have bR:=ac.size;have aP:=ar (n5.out _ xe.out).2;have Sv:=bm.new w4 (zs (List.replicate 13 0)).toArray 108;obtain⟨w5,wT,pE,jG⟩:=br (P:= Tryz.prog) (ty:= 108) (cs:=zs n.B) (by rw[dJ,HB.out];exact jf) Sv (by simp[dJ,HB.out]) (jY _);have wU:=ar wT;have sw:ay [] w4 w5.drew:=(((ay.refl [] w4).alloc _).trans jG (by intro x z;rw[au] at z;omega)).drew;have Zx:=Zw.out.keep sw (by simp);rw[<-ap] at Zx;obtain⟨vc,w6,zt,AE,jz⟩:=Ox (n:=13) (cap:=13) (m:=aZ n.E.length) (mc:=oc) pE.drew Zx (by omega) (by rw[HB.out];omega) (by omega);have UC:=ar zt;have Dy:ay [] w4 w6:=sw.trans jz (by intro x z;rw[au] at z;omega);have XJ:=ar (xe.out.keep Dy (by simp));have bw:=ar (Su.out.keep Dy (by simp));have mX:=ar (nK.out.trans' (Dy.mono (by simp)));have K5:=ar (wj.out.keep Dy (by simp) (by simp));have bl:=ar (Zw.out.keep Dy (by simp));have Zy:bm w6 w4.heap.size (zs (dw n own)).toArray 108 :=AE;have bh:=ar Zy;have bN:=Dy.size;have bQ:=Zy.lt;have bs:=Oy w4.heap.size;have aY:=K0 a (dX n) oc (aZ n.E.length) (by omega);have Ek:=ar (qo (own:=own) HB.out (by omega) (by omega));have Sl:=ar (yv HR.out HB.out (by omega) Ay.out);have vv:Hid (aZ n.E.length<own.length->ew n own=own.getD (aZ n.E.length) 0/\mG n own=ir (1080+8*ew n own) ((dw n own).drop 5) 8):=λhc=>by
  refine⟨by unfold ew;rw[aB hc],by unfold mG;rw[aB hc]⟩
 have GS:Hid (¬aZ n.E.length<own.length->ew n own=0/\mG n own=[]):=λhc=>by
  refine⟨by unfold ew;rw[aA hc],by unfold mG;rw[aA hc]⟩
 have QB:Hid (aL=Sr++(oM n.E (dw n own) (aZ n.E.length)++(mG n own++ir q (fE n (dw n own) ((ew n own:Nat):Int)) 8))):=by
  have h1:=Dw.out;unfold rr at h1;rw[<-HQ.out] at h1;exact h1
 have wQ:Hid (∀k,k<aZ n.E.length->4*k<n.E.length):=λk V=>by unfold aZ at V;omega
 have Zz:=yj.out;have bO:=zY.out;clear wT pE jG sw zt AE jz Dy Zy Sv Dw Uy zC lS uf aN qb BU nK wj Su xe Zw Zx ac;generalize uy:aZ n.E.length=U at *;generalize (zs n.B).toArray=ZB at *;generalize (zs (List.replicate 13 0)).toArray=ZN at *;go_wp2_with(first|(with_reducible refine gL 108 aP.out ?_)|(with_reducible refine gS 108 wU.out ?_));refine fD (l:=[_,_,_,_]) (o:=_) (S:=λy=>y=w5.drew) (by kernel_rfl) rfl (by kernel_rfl) (λd _ _ _ _ h=>by cases d<;>exact h) rfl (by kernel_rfl) (by kernel_rfl) ?_;repeat (refine aJ.cons ?_ (ba.val rfl ?h) ?_;(case h=>(intro y z;go_simp;rfl));simp only[Act.put,ag,ah,ai])
 refine aJ.done λy z=> ?_
 subst z;refine gj rfl (.tmp 40) (.tmp 43) 134 134 rfl _ _ rfl rfl (UC.out _) ?_;clear bs aY wU aP UC N9;have a6:Hid (lv=gp\/(w.heap.size<=lv/\lv<w6.heap.size)):=by show _\/_;omega
 have vZ:b<w.heap.size/\w.heap.size<w4.heap.size/\lv<w6.heap.size/\lv≠w.heap.size/\lv≠w4.heap.size/\go<w4.heap.size/\w.heap.size<=go:=by omega
 have bP:go<w6.heap.size:=by omega
 generalize w4.heap.size=lb at *;have HX:Hid (∀y,ay [b,lv] w6 y->bm y w.heap.size Z 110/\bz y v g n.E/\Reads y (.slice a (dX n) oc) go (cW own)/\bm y lb (zs (dw n own)).toArray 108):=λy V=>by
  refine⟨XJ.out.keep V ?_,bw.out.keep V Ss.out,bl.out.keep V ?_,bh.out.keep V ?_⟩
  ·simp only[aS,aV,bL];omega
  ·simp only[aS,aV,bL];omega
  ·simp only[aS,aV,bL];omega
 have aQ:Hid (ij w6 b lv B (ps++(Sr++oM n.E (dw n own) 0)) w6):=by
  show ij _ _ _ _ _ _;rw[show oM n.E (dw n own) 0=[] from rfl,bq];exact ij.refl K5.out
 have Zb:Hid (U<=6):=bo.2.1;have HF:Hid (∀(x:Int),x=((ew n own:Nat):Int)->∀wy,ij w6 b lv B (ps++(Sr++(oM n.E (dw n own) U++mG n own))) wy->∀y,ay [] wy y->
   (loadVar 110 ⟨w.heap.size,0,none⟩).run Tryz.prog y= .ok (.agg Z) y/\(loadVar 108 ⟨lb,0,none⟩).run Tryz.prog y= .ok (.agg (zs (dw n own)).toArray) y/\
   Calls Tryz.prog 190 #[.agg Z,.agg (zs (dw n own)).toArray,.int .i64 x] y (λe w'=>e= .returned (.agg (aR (fE n (dw n own) x)).toArray)/\ay [] y w')/\
   Calls Tryz.prog 192 #[.pointer (some ⟨b,0,none⟩),.int .i64 (q:Int),.agg (aR (fE n (dw n own) x)).toArray] y (λe w'=>e= .returned (.tuple #[])/\Hid (ij w b gp B (ps++aL) w'))):=by
  rintro x rfl wy ⟨wM,K6,aa,J⟩ y V;obtain⟨ae,-,-,ZF⟩:=HX.out _ J;have wh:ew n own<256:=by
   by_cases hc:U<own.length
   ·have h1:=Ay.out (own.getD U 0) (by rw[aj,aD hc];exact bp _)
    rw[(vv.out hc).1];exact h1.2
   ·rw[(GS.out hc).1];omega
  have af:(mG n own).length<=8:=by
   by_cases hc:U<own.length
   ·rw[(vv.out hc).2,mA];omega
   ·rw[(GS.out hc).2];simp
  have J9:=ae.keep V (by simp);have bg:=ZF.keep V (by simp);have tX:(fE n (dw n own) ((ew n own:Nat):Int)).length=8:=by simp[fE,Ek.out]
  refine⟨(n5.out _ J9).1,eD (off:=0) bg Ek.out (λk V=>by rw[aX,aC,eR (by rw[Ek.out];exact V)]),XU.out _ _ Ek.out (λk=>by have :=Sl.out k;omega) (by omega) y,?_⟩;have h1:=qd (aa.keep V (by simp) (by simp)) (by simp only[aF,ub,Zz];omega) q (by omega) (fE n (dw n own) ((ew n own:Nat):Int)) tX;refine h1.mono ?_;rintro e w' ⟨G,h2⟩;refine⟨G,?_⟩;have e1:ps++(Sr++(oM n.E (dw n own) U++mG n own))++ir q (fE n (dw n own) ((ew n own:Nat):Int)) 8=ps++aL:=by rw[QB.out];simp only[bf]
  rw[e1] at h2;have aO:=J.size;exact ij.trans a6.out mX.out (ij.trans K6 J (ij.mono V (by omega) h2))
 go_wp2_with fail;go_loopg [46] U (λgh s46 y=>∃k:Nat,k+gh=U/\s46= .int .i64 (k:Int)/\Hid (ij w6 b lv B (ps++(Sr++oM n.E (dw n own) k)) y))
 case atStart=>exact⟨0,by omega,rfl,aQ.out⟩
 case round=>
  clear aQ;obtain⟨k,V,rfl,HP⟩:=hrel;obtain⟨wM,K6,aa,J⟩:=HP.out;obtain⟨ae,aw,ax,ZF⟩:=HX.out _ J;have aO:=J.size;cases gk with
  |zero=>
   obtain rfl:k=U:=by omega
   by_cases hc:k<own.length
   ·obtain⟨wh,af⟩:=vv.out hc
    obtain⟨off,bF,bD⟩:∃off,a=some ⟨go,off,none⟩/\wr.cell? ⟨go,off+k,none⟩=some (.int .i64 ((ew n own:Nat):Int)):=by
     obtain⟨a',bG,G,-,-,HC⟩:=OD ax
     injection G with h1 h2 h3
     subst h1;obtain⟨-,off,ho,bt⟩:=HC.out k hc;exact⟨off,ho,by rw[bt,wh]⟩
    have ZG:ew n own<256:=by
     have h1:=Ay.out (own.getD k 0) (by rw[aj,aD hc];exact bp _);rw[wh];exact h1.2
    have nJ:Hid (∀y,ay [] wr y->(loadVar 108 ⟨lb,0,none⟩).run Tryz.prog y= .ok (.agg (zs (dw n own)).toArray) y):=λy rN=>
     eD (off:=0) (ZF.keep rN (by simp)) Ek.out (λk V=>by rw[aX,aC,eR (by rw[Ek.out];exact V)])
    have AD:Hid (∀y,Calls Tryz.prog 146 #[.int .i64 ((ew n own:Nat):Int)] y λe w'=>e= .returned (.int .i64 ((1080+8*ew n own:Nat):Int))/\y=w'):=λy=>by
     have :=jm ((ew n own:Nat):Int) y;rwa[gV,aA (by omega),show 1080+((ew n own:Nat):Int)*8=((1080+8*ew n own:Nat):Int) by omega] at this
    have QG:Hid (∀y,Calls Tryz.prog 194 #[.agg (zs (dw n own)).toArray] y λe w'=>e= .returned (.agg (aR ((dw n own).drop 5)).toArray)/\ay [] y w'):=λy=>KM _ Ek.out (λk=>by have :=Sl.out k;omega) y
    have FP:Hid (∀y,ay [] wr y->Calls Tryz.prog 192 #[.pointer (some ⟨b,0,none⟩),.int .i64 ((1080+8*ew n own:Nat):Int),.agg (aR ((dw n own).drop 5)).toArray] y λe w'=>e= .returned (.tuple #[])/\ij w6 b lv B (ps++(Sr++(oM n.E (dw n own) k++mG n own))) w'):=λy rN=>by
     have h1:=qd (aa.keep rN (by simp) (by simp)) (by simp only[aF,ub,Zz];omega) (1080+8*ew n own) (by omega) ((dw n own).drop 5) (by rw[bu,Ek.out]);refine h1.mono ?_;rintro e w' ⟨G,h2⟩;refine⟨G,?_⟩;rw[bf,bf,<-af] at h2;exact ij.trans K6 J (ij.mono rN (by omega) h2)
    have aW:(k:Int)<((dX n:Nat):Int):=by omega
    have ez:(0:Int)<=(k:Int):=by omega
    subst bF;have HF:=ar (HF.out ((ew n own:Nat):Int) rfl);clear HP aa ae aw ax ZF vv GS wh af HX;generalize (aR (fE n (dw n own) ((ew n own:Nat):Int))).toArray=ZR at *;generalize (aR ((dw n own).drop 5)).toArray=ZD at *;generalize (zs (dw n own)).toArray=ZL at *;generalize ((1080+8*ew n own:Nat):Int)=bk at *;generalize ((ew n own:Nat):Int)=li at *;go_wp2_with fail;refine fD (l:=[_,_,_,_,_]) (o:=_) (S:=λy=>ay [] wr y) (by kernel_rfl) rfl (by kernel_rfl) (λd _ _ _ _ h=>by cases d<;>exact h) ((ay.refl _ _).drew) (by kernel_rfl) (by kernel_rfl) ?_;repeat (first
     |(refine aJ.cons (.agg ZL) (ba.load rfl 108 (.tmp 10) rfl _ rfl λy z=>nJ.out y z) ?_;simp only[Act.put,ag,ah,ai])
     |(refine aJ.cons (.int .i64 bk) (ba.call rfl 146 #[.int .i64 li] ?G ?h) ?_;(case G=>(intro wz;go_simp));(case h=>exact λy z=>(AD.out y).mono λe w' G=>⟨G.1,G.2▸z⟩);simp only[Act.put,ag,ah,ai])
     |(refine aJ.cons (.agg ZD) (ba.call rfl 194 #[.agg ZL] ?G ?h) ?_;(case G=>(intro wz;go_simp));(case h=>exact λy z=>(QG.out y).mono λe w' G=>⟨G.1,z.trans' G.2⟩);simp only[Act.put,ag,ah,ai])
     |(refine aJ.cons ?_ (ba.val rfl ?h) ?_;(case h=>(intro y z;clear z;go_simp;rfl));simp only[Act.put,ag,ah,ai]))
    refine aJ.done λy z=> ?_
    have nR:=ar z;clear z;go_wp2_with fail;refine(FP.out _ nR.out).mono ?_;rintro e w7 ⟨rfl,sZ⟩;have aq:=ar (HF.out w7 sZ);clear HF sZ nR FP QG nJ AD;go_wp2_with fail;refine fD (l:=[_,_,_,_,_,_,_]) (o:=_) (S:=λy=>ay [] w7 y) (by kernel_rfl) rfl (by kernel_rfl) (λd _ _ _ _ h=>by cases d<;>exact h) ((ay.refl _ _).drew) (by kernel_rfl) (by kernel_rfl) ?_;repeat (first
     |(refine aJ.cons (.agg Z) (ba.load rfl 110 (.tmp 5) rfl _ rfl λy z=>(aq.out y z).1) ?_;simp only[Act.put,ag,ah,ai])
     |(refine aJ.cons (.agg ZL) (ba.load rfl 108 (.tmp 10) rfl _ rfl λy z=>(aq.out y z).2.1) ?_;simp only[Act.put,ag,ah,ai])
     |(refine aJ.cons (.int .i64 (q:Int)) (ba.call rfl 134 #[.int .i64 i] ?G ?h) ?_;(case G=>(intro wz;go_simp));(case h=>exact λy z=>(HI.out y).mono λe w' G=>⟨G.1,G.2▸z⟩);simp only[Act.put,ag,ah,ai])
     |(refine aJ.cons (.agg ZR) (ba.call rfl 190 #[.agg Z,.agg ZL,.int .i64 li] ?G ?h) ?_;(case G=>(intro wz;go_simp));(case h=>exact λy z=>(aq.out y z).2.2.1.mono λe w' G=>⟨G.1,z.trans' G.2⟩);simp only[Act.put,ag,ah,ai])
     |(refine aJ.cons ?_ (ba.val rfl ?h) ?_;(case h=>(intro y z;clear z;go_simp;rfl));simp only[Act.put,ag,ah,ai]))
    refine aJ.done λy z=> ?_
    have nR:=ar z;clear z;go_wp2_with fail;refine(aq.out _ nR.out).2.2.2.mono ?_;rintro e w' ⟨rfl,sZ⟩;go_wp2_with fail;go_ret;exact⟨rfl,sZ.out⟩
   ·obtain⟨wh,af⟩:=GS.out hc
    have aG:=ar (HF.out 0 (by rw[wh];rfl) wr (by rw[af,bq];exact HP.out));have Ac:¬(k:Int)<((dX n:Nat):Int):=by omega
    clear HF HP aa ae aw ax ZF vv GS wh af HX;generalize (aR (fE n (dw n own) 0)).toArray=ZR at *;generalize (zs (dw n own)).toArray=ZL at *;go_wp2_with fail;refine fD (l:=[_,_,_,_,_,_,_]) (o:=_) (S:=λy=>ay [] wr y) (by kernel_rfl) rfl (by kernel_rfl) (λd _ _ _ _ h=>by cases d<;>exact h) ((ay.refl _ _).drew) (by kernel_rfl) (by kernel_rfl) ?_;repeat (first
     |(refine aJ.cons (.agg Z) (ba.load rfl 110 (.tmp 5) rfl _ rfl λy z=>(aG.out y z).1) ?_;simp only[Act.put,ag,ah,ai])
     |(refine aJ.cons (.agg ZL) (ba.load rfl 108 (.tmp 10) rfl _ rfl λy z=>(aG.out y z).2.1) ?_;simp only[Act.put,ag,ah,ai])
     |(refine aJ.cons (.int .i64 (q:Int)) (ba.call rfl 134 #[.int .i64 i] ?G ?h) ?_;(case G=>(intro wz;go_simp));(case h=>exact λy z=>(HI.out y).mono λe w' G=>⟨G.1,G.2▸z⟩);simp only[Act.put,ag,ah,ai])
     |(refine aJ.cons (.agg ZR) (ba.call rfl 190 #[.agg Z,.agg ZL,.int .i64 0] ?G ?h) ?_;(case G=>(intro wz;go_simp));(case h=>exact λy z=>(aG.out y z).2.2.1.mono λe w' G=>⟨G.1,z.trans' G.2⟩);simp only[Act.put,ag,ah,ai])
     |(refine aJ.cons ?_ (ba.val rfl ?h) ?_;(case h=>(intro y z;clear z;go_simp;rfl));simp only[Act.put,ag,ah,ai]))
    refine aJ.done λy z=> ?_
    have nR:=ar z;clear z;go_wp2_with fail;refine(aG.out _ nR.out).2.2.2.mono ?_;rintro e w' ⟨rfl,sZ⟩;go_wp2_with fail;go_ret;exact⟨rfl,sZ.out⟩
  |succ gg=>
   have vB:k<U:=by omega
   have aW:(k:Int)<(U:Int):=by omega
   have ez:(0:Int)<=(k:Int):=by omega
   have mv:(k:Int)<13:=by omega
   have ML:=Sl.out k;have a8:Hid (∀y,ay [] wr y->(loadVar 3 ⟨lb,k,none⟩).run Tryz.prog y= .ok (.int .i64 ((dw n own).getD k 0)) y):=λy rN=>Bv (off:=k) Tryz.underlying3 (ZF.keep rN (by simp)) (by rw[aC,eR (by rw[Ek.out];omega)])
   have bn:Hid (∀y,ay [] wr y->(loadVar 32 ⟨w.heap.size,17,none⟩).run Tryz.prog y= .ok v y):=λy rN=>VV (off:=17) Tryz.underlying32 (ae.keep rN (by simp)) bB
   have AD:Hid (∀y,Calls Tryz.prog 146 #[.int .i64 ((dw n own).getD k 0)] y λe w'=>e= .returned (.int .i64 ((1080+8*((dw n own).getD k 0).toNat:Nat):Int))/\y=w'):=λy=>by
    have :=jm ((dw n own).getD k 0) y;rwa[gV,aA (by omega),show 1080+(dw n own).getD k 0*8=((1080+8*((dw n own).getD k 0).toNat:Nat):Int) by omega] at this
   have Ag:Hid (∀y,ay [] wr y->Calls Tryz.prog 193 #[v,.int .i64 (k:Int)] y λe w'=>e= .returned (.agg (aR (fT n.E k)).toArray)/\ay [] y w'):=λy rN=>tr (aw.keep rN (by simp)) bc.out k (wQ.out k vB)
   have FP:Hid (∀y,ay [] wr y->Calls Tryz.prog 192 #[.pointer (some ⟨b,0,none⟩),.int .i64 ((1080+8*((dw n own).getD k 0).toNat:Nat):Int),.agg (aR (fT n.E k)).toArray] y λe w'=>e= .returned (.tuple #[])/\Hid (ij w6 b lv B (ps++(Sr++oM n.E (dw n own) (k+1))) w')):=λy rN=>by
    have h1:=qd (aa.keep rN (by simp) (by simp)) (by simp only[aF,ub,Zz];omega) (1080+8*((dw n own).getD k 0).toNat) (by omega) (fT n.E k) (jA _ _ _);refine h1.mono ?_;rintro e w' ⟨G,h2⟩;refine⟨G,?_⟩;rw[bf,bf,<-vE] at h2;exact ij.trans K6 J (ij.mono rN (by omega) h2)
   clear HP aa ae aw ax ZF HX HF vv GS ML;generalize ((1080+8*((dw n own).getD k 0).toNat:Nat):Int)=bk at *;generalize (dw n own).getD k 0=x at *;generalize (aR (fT n.E k)).toArray=RW at *;go_wp2_with fail;refine fD (l:=[_,_,_,_,_,_,_,_,_]) (o:=_) (S:=λy=>ay [] wr y) (by kernel_rfl) rfl (by kernel_rfl) (λd _ _ _ _ h=>by cases d<;>exact h) ((ay.refl _ _).drew) (by kernel_rfl) (by kernel_rfl) ?_;repeat (first
    |(refine aJ.cons (.int .i64 x) (ba.load rfl 3 (.tmp 51) rfl _ rfl λy z=>a8.out y z) ?_;simp only[Act.put,ag,ah,ai])
    |(refine aJ.cons v (ba.load rfl 32 (.tmp 54) rfl _ rfl λy z=>bn.out y z) ?_;simp only[Act.put,ag,ah,ai])
    |(refine aJ.cons (.int .i64 bk) (ba.call rfl 146 #[.int .i64 x] ?G ?h) ?_;(case G=>(intro wz;go_simp));(case h=>exact λy z=>(AD.out y).mono λe w' G=>⟨G.1,G.2▸z⟩);simp only[Act.put,ag,ah,ai])
    |(refine aJ.cons (.agg RW) (ba.call rfl 193 #[v,.int .i64 (k:Int)] ?G ?h) ?_;(case G=>(intro wz;go_simp));(case h=>exact λy z=>(Ag.out y z).mono λe w' G=>⟨G.1,z.trans' G.2⟩);simp only[Act.put,ag,ah,ai])
    |(refine aJ.cons ?_ (ba.val rfl ?h) ?_;(case h=>(intro y z;clear z;go_simp;rfl));simp only[Act.put,ag,ah,ai]))
   refine aJ.done λy z=> ?_
   have nR:=ar z;clear z;go_wp2_with fail;refine(FP.out _ nR.out).mono ?_;rintro e w' ⟨rfl,sZ⟩;go_wp2_with fail;go_roundg gg;case measure=>omega
   case rel=>exact⟨k+1,by omega,by go_num,sZ.out⟩
def tE (i:Int) (n:bM):Prop:=(0<=i/\i<32)/\n.F=2/\bP n
instance (i:Int) (n:bM):Decidable (tE i n):=by unfold tE;infer_instance
theorem Sw (i:Int)(n:bM)(v:Value)(g:Nat)(W:n.B.length=13)(hE:bz w v g n.E)(hN:∀k,k<n.E.length->(eh n.E k).size<=9223372036854775807)(J:¬tE i n):
  Calls Tryz.prog 171 #[p,.int .i64 i,.agg (aU n v)] w λe w'=>e= .returned (.int .i64 1)/\ay [] w w':=by
 have uM:Hid (∀U,ay [] w U->Calls Tryz.prog 94 #[.agg (aU n v)] U λe w'=>e= .returned (.bool (decide (bP n)))/\ay [] U w'):=λU hk=>kV n v g W U (hE.keep hk (by simp)) hN
 have G:=jo v W;have y:=bm.new w (aU n v) 110;have HL:=ar (cH y W);have V:=ar (ja i);generalize aU n v=Z at *;have c0:(w.alloc (.cells Z 110)).cell? ⟨w.heap.size,0,none⟩=some (.int .i64 n.F):=by rw[y.cell];exact G.f0
 have HK:Hid (ay [] w (w.alloc (.cells Z 110))):=(ay.refl [] w).alloc _;have jr:=ar J;clear y G hE hN W J;by_cases hi:i<0\/32<=i
 ·have z:eZ i= -1:=by unfold eZ;rw[aB hi]
  rw[z] at V;clear z;go_enter Tryz.func171,Tryz.ntmps171;go_wp2_with fail;refine(V.out _).mono ?_;rintro e w' ⟨rfl,rfl⟩;go_wp2_with fail;go_ret;exact⟨rfl,HK.out⟩
 ·have z:eZ i=((824+8*i.toNat:Nat):Int):=by unfold eZ;rw[aA hi];omega
  rw[z] at V;have MS:(0:Int)<=((824+8*i.toNat:Nat):Int):=by omega
  generalize ((824+8*i.toNat:Nat):Int)=q at *;clear z;by_cases hF:n.F=2
  ·have HQ:Hid (decide (bP n)=false):=aT λh=>jr.out ⟨by omega,hF,h⟩
   rw[hF] at c0;rw[HQ.out] at uM;go_enter Tryz.func171,Tryz.ntmps171;go_wp2_with fail;refine(V.out _).mono ?_;rintro e w' ⟨rfl,rfl⟩;go_wp2_with((with_reducible show wpList _ _ _ (⟨_,.load 110 (.tmp 5),_,_,_,_⟩::_) _ _);refine dC (by simp[Region.wanted,yielded,MS]) 110 (.tmp 5) rfl _ rfl _ HL.out ?_);refine(uM.out _ HK.out).mono ?_;rintro e w1 ⟨rfl,dc⟩;have iH:=ar (HK.out.trans' dc);clear dc;go_wp2_with fail;go_ret;exact⟨rfl,iH.out⟩
  ·have aa:(n.F != 2)=true:=bne_iff_ne.2 hF
   generalize n.F=f at *;go_enter Tryz.func171,Tryz.ntmps171;go_wp2_with fail;refine(V.out _).mono ?_;rintro e w' ⟨rfl,rfl⟩;go_wp2_with fail;go_ret;exact⟨rfl,HK.out⟩
theorem K7 (h:eF w b gp B ps)(eT:dD (az B ps))(i:Int)(n:bM)(v:Value)(g:Nat)(U:n.B.length=13)(hE:bz w v g n.E)(hN:∀k,k<n.E.length->(eh n.E k).size<=9223372036854775807)
  (G:tE i n) (Sn:(bb (az B ps)).length<dU n):
  Calls Tryz.prog 171 #[.pointer (some ⟨b,0,none⟩),.int .i64 i,.agg (aU n v)] w λe w'=>e= .returned (.int .i64 7)/\ay [] w w':=by
 have uM:Hid (∀y,ay [] w y->Calls Tryz.prog 94 #[.agg (aU n v)] y λe w'=>e= .returned (.bool true)/\ay [] y w'):=λy z=>by
  have :=kV n v g U y (hE.keep z (by simp)) hN;rwa[bj G.2.2] at this
 have aa:=(iA G.2.2).1;have xd:Hid (∀y,ay [] w y->Calls Tryz.prog 196 #[.agg (aU n v)] y λe w'=>e= .returned (.int .i64 ((dU n:Nat):Int))/\ay [] y w'):=λy z=>by
  have :=BK n v g U y (hE.keep z (by simp)) (by omega) hN;rwa[aB G.2.2] at this
 have K4:Hid (∀y,ay [] w y->Calls Tryz.prog 148 #[.pointer (some ⟨b,0,none⟩),.int .i64 ((dU n:Nat):Int)] y λe w'=>e= .returned (.tuple #[.slice none 0 0,.int .i64 7])/\y=w'):=λy z=>
  zA (h.keep z (by simp) (by simp)) eT (dU n) Sn
 have V:=jo v U;have J:=bm.new w (aU n v) 110;have HL:Hid (∀y,ay [] (w.alloc (.cells (aU n v) 110)) y->(loadVar 110 ⟨w.heap.size,0,none⟩).run Tryz.prog y= .ok (.agg (aU n v)) y):=λy z=>cH (J.keep z (by simp)) U
 have HI:=ar (ja i);generalize aU n v=Z at *;have c0:(w.alloc (.cells Z 110)).cell? ⟨w.heap.size,0,none⟩=some (.int .i64 2):=by rw[J.cell,<-G.2.1];exact V.f0
 have HK:Hid (ay [] w (w.alloc (.cells Z 110))):=(ay.refl [] w).alloc _;have k6:eZ i=((824+8*i.toNat:Nat):Int):=by unfold eZ;rw[aA (by have :=G.1;omega)];have :=G.1;omega
 rw[k6] at HI;have MS:(0:Int)<=((824+8*i.toNat:Nat):Int):=by omega
 generalize ((824+8*i.toNat:Nat):Int)=q at *;clear J V hE hN U k6 G h eT Sn;have BD:=ar (HL.out _ (ay.refl [] _));generalize ((dU n:Nat):Int)=nn at *;go_enter Tryz.func171,Tryz.ntmps171;go_wp2_with fail;refine(HI.out _).mono ?_;rintro e w' ⟨rfl,rfl⟩;go_wp2_with((with_reducible show wpList _ _ _ (⟨_,.load 110 (.tmp 5),_,_,_,_⟩::_) _ _);refine dC (by simp[Region.wanted,yielded,MS]) 110 (.tmp 5) rfl _ rfl _ BD.out ?_);refine(uM.out _ HK.out).mono ?_;rintro e w1 ⟨rfl,dc⟩;have iH:=ar (HK.out.trans' dc);have qQ:=ar (HL.out _ dc);clear dc;go_wp2_with(with_reducible refine gL 110 qQ.out ?_);refine(xd.out _ iH.out).mono ?_;rintro e w2 ⟨rfl,W⟩;have fj:=ar (iH.out.trans' W);clear W;go_wp2_with fail;refine(K4.out _ fj.out).mono ?_;rintro e w3 ⟨rfl,rfl⟩;go_wp2_with fail;go_ret;exact⟨rfl,fj.out⟩
def pz (Ls:List (List Int)) (own:List Nat) (k:Nat):List (Int×Int):=(List.range k).flatMap λj=>ir (1080+8*own.getD j 0) (Ls.getD j []) 8
theorem vG (Ls:List (List Int))(own:List Nat)(k:Nat):pz Ls own (k+1)=pz Ls own k++ir (1080+8*own.getD k 0) (Ls.getD k []) 8:=by
 unfold pz;rw[dL,List.flatMap_append];simp
theorem yx (Ls:List (List Int))(own:List Nat)(k:Nat):(pz Ls own k).length=8*k:=by
 induction k with
 |zero=>rfl
 |succ k ih=>rw[vG,aF,ih,mA];omega
def j4 (X:List Int) (i:Nat) (n:bM) (own:List Nat):List (Int×Int):=cL X own++(pz (fh n own) own own.length++ir (824+8*i) (kR n own) 8)
theorem B3 (z:bP n):dU n<=32:=by
 rcases z.2.2 with ⟨-,y⟩|⟨-,h⟩
 ·rw[od y]
  split<;>omega
 ·rw[qq h]
  have G:=h.1;have J:=iI n.E 0;have V:=iI n.E 1;have U:=iI n.E 2;have W:=iI n.E 3;simp only[eL,dN];omega
theorem VW (h:eF w b gp B ps)(eT:dD (az B ps))(hT:kI w)(Df:gp<w.heap.size)(pn:ps.length<=800000)(i:Int)(n:bM)(v:Value)(g:Nat)(hB:n.B.length=13)(hE:bz w v g n.E)
  (hN:∀k,k<n.E.length->(eh n.E k).size<=9223372036854775807) (gW:tE i n) (ue:n.E.length≠0->g≠b/\g≠gp) (hn:dU n<=(bb (az B ps)).length):
  Calls Tryz.prog 171 #[.pointer (some ⟨b,0,none⟩),.int .i64 i,.agg (aU n v)] w λe w'=>e= .returned (.int .i64 0)/\ij w b gp B (ps++j4 (az B ps) i.toNat n ((bb (az B ps)).take (dU n))) w':=by
 have uM:Hid (∀y,ay [] w y->Calls Tryz.prog 94 #[.agg (aU n v)] y λe w'=>e= .returned (.bool true)/\ay [] y w'):=λy hk=>by
  have :=kV n v g hB y (hE.keep hk (by simp)) hN;rwa[bj gW.2.2] at this
 have bs:=iA gW.2.2;have xd:Hid (∀y,ay [] w y->Calls Tryz.prog 196 #[.agg (aU n v)] y λe w'=>e= .returned (.int .i64 ((dU n:Nat):Int))/\ay [] y w'):=λy hk=>by
  have :=BK n v g hB y (hE.keep hk (by simp)) (by omega) hN;rwa[aB gW.2.2] at this
 have xS:=xX (az B ps);have K4:Hid (∀y,ay [] w y->Calls Tryz.prog 148 #[.pointer (some ⟨b,0,none⟩),.int .i64 ((dU n:Nat):Int)] y (xb y b gp B ps ((bb (az B ps)).take (dU n)))):=λy hk=>
  EC (h.keep hk (by simp) (by simp)) eT (hT.keep hk) (bC Df hk.size) (by omega) (dU n) hn
 have Ay:Hid (∀c∈(bb (az B ps)).take (dU n),c≠0/\c<256):=λc hc=>by
  have :=iX.1 (bA hc);exact⟨this.2.1,this.1⟩
 have U:((bb (az B ps)).take (dU n)).length=dU n:=by rw[aI,cy hn]
 have bt:=B3 gW.2.2;have bg:((bb (az B ps)).take (dU n)).length<=32:=by omega
 have av:=jo v hB;have ae:=bm.new w (aU n v) 110;have bB:=h.raw.lt;have HI:=ar (ja i);have HR:=ar gW.2.2;have HB:=ar hB;have n5:Hid (∀y,bm y w.heap.size (aU n v) 110->(loadVar 110 ⟨w.heap.size,0,none⟩).run Tryz.prog y= .ok (.agg (aU n v)) y):=λy hb=>cH hb hB
 have Dw:Hid (j4 (az B ps) i.toNat n ((bb (az B ps)).take (dU n))=cL (az B ps) ((bb (az B ps)).take (dU n))++(pz (fh n ((bb (az B ps)).take (dU n))) ((bb (az B ps)).take (dU n)) ((bb (az B ps)).take (dU n)).length++ir (824+8*i.toNat) (kR n ((bb (az B ps)).take (dU n))) 8)):=rfl;have yj:Hid ((cL (az B ps) ((bb (az B ps)).take (dU n))).length=9*dU n):=by
  show _=_;rw[oA _ _ Ay.out,U]
 generalize nM:(bb (az B ps)).take (dU n)=own at *;have VT:Hid (∀y v' G vo,bz y v g n.E->Reads y vo G (cW own)->v'=v->Calls Tryz.prog 198 #[.agg (aU n v'),vo] y (l8 y (kR n own) (fh n own))):=λy v' G vo V ho hv=>by
  subst hv;exact MR n v' g hB gW.2.2 V vo G own ho U λc hc=>(Ay.out c hc).2
 have aT:=tD gW.2.2 U;have K2:Hid (∀k,k<own.length->((fh n own).getD k []).length=8):=λk hk=>ru (by omega)
 have tX:=xc n own;generalize j4 (az B ps) i.toNat n own=aZ at *;generalize Sq:cL (az B ps) own=Sr at *;have Zu:=ar Sq;clear Sq;have aq:eZ i=((824+8*i.toNat:Nat):Int):=by unfold eZ;rw[aA (by have :=gW.1;omega)];have :=gW.1;omega
 rw[aq] at HI;have jt:i.toNat<32:=by have :=gW.1;omega
 have c0:(w.alloc (.cells (aU n v) 110)).cell? ⟨w.heap.size,0,none⟩=some (.int .i64 2):=by rw[ae.cell,<-gW.2.1];exact av.f0
 generalize aN:kR n own=RW at *;generalize aP:fh n own=BW at *;have aw:Hid (∀y G vo,bz y v g n.E->Reads y vo G (cW own)->Calls Tryz.prog 198 #[.agg (aU n v),vo] y (l8 y RW BW)):=λy G vo V ho=>VT.out y v G vo V ho rfl
 generalize hZ:aU n v=Z at *;have HK:Hid (ay [] w (w.alloc (.cells Z 110))):=(ay.refl [] w).alloc _;have nu:=ar ae;have HE:=ar hE;have HS:=ar h;have zY:=ar pn;have BD:=ar (n5.out _ ae);generalize hq:824+8*i.toNat=q at *;have aM:q+8<=3128:=by omega
 clear hq jt aN aP hZ VT;have MS:(0:Int)<=(q:Int):=by omega
 have a7:=ar U;clear ae av hE hN hB aq h eT hT xS hn nM pn U gW;have p8:=jd;generalize sG:(aR (List.replicate 8 0)).toArray=Z8 at *;have xH:=ar sG;clear sG;go_enter Tryz.func171,Tryz.ntmps171;go_wp2_with fail;refine(HI.out _).mono ?_;rintro e w' ⟨rfl,rfl⟩;go_wp2_with((with_reducible show wpList _ _ _ (⟨_,.load 110 (.tmp 5),_,_,_,_⟩::_) _ _);refine dC (by simp[Region.wanted,yielded,MS]) 110 (.tmp 5) rfl _ rfl _ BD.out ?_);refine(uM.out _ HK.out).mono ?_;rintro e w1 ⟨rfl,dc⟩;have iH:=ar (HK.out.trans' dc);have qa:=ar (nu.out.keep dc (by simp));have qQ:=ar (n5.out _ qa.out);clear dc BD nu HK;go_wp2_with(with_reducible refine gL 110 qQ.out ?_);refine(xd.out _ iH.out).mono ?_;rintro e w2 ⟨rfl,z⟩;have fj:=ar (iH.out.trans' z);have nY:=ar (qa.out.keep z (by simp));clear z iH qa qQ xd uM;go_wp2_with fail;refine(K4.out _ fj.out).mono ?_;rintro e w3 ⟨vo,G,rfl,ap,bD,aO,lv,Zv,bH,ak,aa⟩;rw[Zu.out] at ak;have bE:=fj.out.size;have bh:=nY.out.lt;have qb:=ar (nY.out.keep aa (by simp only[aS,aV,bL];omega));have aC:Hid (bz w3 v g n.E):=(HE.out.keep fj.out (by simp)).keep aa (λaY=>by have :=ue aY;simp only[aS,aV,bL];omega);have lS:Hid (ay [b,gp] w w3):=(fj.out.mono (by simp)).trans' aa;have uf:=ar ak;have BU:=ar ap;have zC:=ar (n5.out _ qb.out);have bo:=aa.size;obtain⟨ao,co,rfl,Ir,bG,VH⟩:=oJ ap;clear K4 fj nY HE HS aa ak ap;go_wp2_with(with_reducible refine gL 110 zC.out ?_);refine(aw.out _ G _ aC.out BU.out).mono ?_;rintro e w4 ⟨vb,gb,rfl,hb,bl,af⟩;obtain⟨W,aG,MJ,jG⟩:=br (P:= Tryz.prog) (ty:= 188) (cs:=aR RW) (by rw[bc,tX];exact gH) (bm.new w4 Z8 188) (by rw[<-xH.out];simp[bc,tX]) (eu _);have bw:=af.size;have sw:ay [] w4 W:=((ay.refl [] w4).alloc (.cells Z8 188)).trans jG (by intro x J;rw[au] at J;omega);have OE:ay [] w3 W:=af.trans' sw;have Ak:=ar aG;have XM:=ar MJ;have aK:Hid (l7 W vb gb BW):=hb.keep sw (by simp);have zz:=ar (uf.out.keep OE (by simp) (by simp));have oH:Hid (ay [b,gp] w W):=lS.out.trans' (OE.mono (by simp));have aW:Hid (own.length≠0->gb≠b/\gb≠lv/\gb≠w4.heap.size):=λh0=>by
  obtain⟨a,cap,q1,q2,q3,q4⟩:=hb;have :=(q4 (by omega)).1;omega
 have bv:G<w3.heap.size:=aO;have Kb:Hid (∀k,k<own.length->∀y,ay [b,lv] W y->G<w3.heap.size/\∃off,ao=some ⟨G,off,none⟩/\y.cell? ⟨G,off+k,none⟩=some (.int .i64 ((own.getD k 0:Nat):Int))):=λk hk y K3=>by
  obtain⟨h1,off,h2,h3⟩:=VH.out k hk;refine⟨h1,off,h2,?_⟩;have e1:y.heap[G]? =W.heap[G]? :=K3.block G (bC h1 OE.size) (by simp only[aS,aV,bL];omega);have e2:W.heap[G]? =w3.heap[G]? :=OE.block G h1 (by simp);exact(aL (w:=w3) (w':=y) (a:=⟨G,off+k,none⟩) (e1.trans e2)).trans h3
 have pE:w4.heap.size<W.heap.size:=MJ.lt;have bn:=OE.size;have bq:lv<w3.heap.size:=by
  rcases Zv with h|h
  ·omega
  ·omega
 have ax:Hid (ij W b lv B (ps++(Sr++pz BW own 0)) W):=by
  refine ij.refl ?_;have :=zz.out;simpa[pz] using this
 clear aG MJ jG sw OE af hb zC uf aC qb BU lS aw VH;generalize bF:w4.heap.size=g9 at *;go_wp2_with(with_reducible refine gS 188 Ak.out ?_);go_loopg [44] own.length (λgh s44 y=>∃k:Nat,k+gh=own.length/\s44= .int .i64 (k:Int)/\Hid (ij W b lv B (ps++(Sr++pz BW own k)) y))
 case atStart=>exact⟨0,by omega,rfl,ax.out⟩
 case round=>
  clear ax;obtain⟨k,hk,rfl,HP⟩:=hrel;obtain⟨wM,K6,ac,z⟩:=HP.out;have QG:Hid (∀y,ay [] wr y->(loadVar 188 ⟨g9,0,none⟩).run Tryz.prog y= .ok (.agg (aR RW).toArray) y):=λy K3=>ea ((XM.out.keep z (by simp only[aS,aV,bL];omega)).keep K3 (by simp)) tX
  have aH:=yj.out;have bI:=zY.out;have UB:=z.size;cases gk with
  |zero=>
   obtain rfl:k=own.length:=by omega
   have aX:Hid (∀y,Calls Tryz.prog 134 #[.int .i64 i] y λe w'=>e= .returned (.int .i64 ((q:Nat):Int))/\y=w'):=λy=>HI.out y
   have FP:Hid (∀y,ay [] wr y->Calls Tryz.prog 192 #[.pointer (some ⟨b,0,none⟩),.int .i64 ((q:Nat):Int),.agg (aR RW).toArray] y λe w'=>e= .returned (.tuple #[])/\Hid (ij w b gp B (ps++aZ) w')):=λy rN=>by
    have h1:=qd (ac.keep rN (by simp) (by simp)) (by simp only[aF,yx,aH];omega) q aM RW tX;refine h1.mono ?_;rintro e w' ⟨V,h2⟩;refine⟨V,?_⟩;rw[bf,bf,<-Dw.out] at h2;have h3:=ij.trans K6 z (ij.mono rN (by omega) h2);refine ij.trans ?_ oH.out h3;rcases Zv with h|h
    ·exact .inl h
    ·exact .inr ⟨by omega,by omega⟩
   clear HP ac Kb Dw;generalize (aR RW).toArray=ZW at *;generalize ((q:Nat):Int)=qi at *;go_wp2_with fail;refine fD (l:=[_,_,_,_]) (o:=_) (S:=λy=>ay [] wr y) (by kernel_rfl) rfl (by kernel_rfl) (λd _ _ _ _ h=>by cases d<;>exact h) ((ay.refl _ _).drew) (by kernel_rfl) (by kernel_rfl) ?_;repeat (first
    |(refine aJ.cons (.agg ZW) (ba.load rfl 188 (.tmp 9) rfl _ rfl λy J=>QG.out y J) ?_;simp only[Act.put,ag,ah,ai])
    |(refine aJ.cons (.int .i64 qi) (ba.call rfl 134 #[.int .i64 i] ?V ?h) ?_;(case V=>(intro wz;go_simp));(case h=>exact λy J=>(aX.out y).mono λe w' V=>⟨V.1,V.2▸J⟩);simp only[Act.put,ag,ah,ai])
    |(refine aJ.cons ?_ (ba.val rfl ?h) ?_;(case h=>(intro y J;clear J;go_simp;rfl));simp only[Act.put,ag,ah,ai]))
   refine aJ.done λy J=> ?_
   have nR:=ar J;clear J;go_wp2_with fail;refine(FP.out _ nR.out).mono ?_;rintro e w' ⟨rfl,sZ⟩;go_wp2_with fail;go_ret;exact⟨rfl,sZ.out⟩
  |succ gg=>
   have xG:k<own.length:=by omega
   have a8:(k:Int)<(own.length:Int):=by omega
   have ez:(0:Int)<=(k:Int):=by omega
   obtain⟨bu,off,rfl,c1⟩:=Kb.out k xG wr z;obtain⟨a6,cap,rfl,ZH,ny⟩:=zB aK.out (k:=k) (by omega) (K2.out k xG);have aQ:=aW.out (by omega);have nJ:Hid (∀y,ay [] wr y->(loadVar 188 ⟨gb,a6+k*8,none⟩).run Tryz.prog y= .ok (.agg (aR (BW.getD k [])).toArray) y):=λy K3=>ny y ((K3.block gb (bC ZH z.size) (by simp)).trans (z.block gb ZH (by simp only[aS,aV,bL];omega)))
   have Si:own.getD k 0<256:=(Ay.out _ (by rw[aj,aD xG];exact bp xG)).2;have AD:Hid (∀y,Calls Tryz.prog 146 #[.int .i64 ((own.getD k 0:Nat):Int)] y λe w'=>e= .returned (.int .i64 ((1080+8*own.getD k 0:Nat):Int))/\y=w'):=λy=>by
    have :=jm ((own.getD k 0:Nat):Int) y;rwa[gV,aA (by omega),show 1080+((own.getD k 0:Nat):Int)*8=((1080+8*own.getD k 0:Nat):Int) by omega] at this
   have FP:Hid (∀y,ay [] wr y->Calls Tryz.prog 192 #[.pointer (some ⟨b,0,none⟩),.int .i64 ((1080+8*own.getD k 0:Nat):Int),.agg (aR (BW.getD k [])).toArray] y λe w'=>e= .returned (.tuple #[])/\Hid (ij W b lv B (ps++(Sr++pz BW own (k+1))) w')):=λy rN=>by
    have h1:=qd (ac.keep rN (by simp) (by simp)) (by simp only[aF,yx,aH];omega) (1080+8*own.getD k 0) (by omega) (BW.getD k []) (K2.out k xG);refine h1.mono ?_;rintro e w' ⟨V,h2⟩;refine⟨V,?_⟩;rw[bf,bf,<-vG] at h2;exact ij.trans K6 z (ij.mono rN (by omega) h2)
   rw[aT] at *;clear HP ac QG Si ny ZH aQ aK Kb Dw;generalize ((1080+8*own.getD k 0:Nat):Int)=bk at *;generalize ((own.getD k 0:Nat):Int)=x at *;generalize (aR (BW.getD k [])).toArray=RK at *;go_wp2_with fail;refine fD (l:=[_,_,_,_,_,_,_]) (o:=_) (S:=λy=>ay [] wr y) (by kernel_rfl) rfl (by kernel_rfl) (λd _ _ _ _ h=>by cases d<;>exact h) ((ay.refl _ _).drew) (by kernel_rfl) (by kernel_rfl) ?_;repeat (first
    |(refine aJ.cons (.agg RK) (ba.load rfl 188 (.tmp 54) rfl _ rfl λy J=>nJ.out y J) ?_;simp only[Act.put,ag,ah,ai])
    |(refine aJ.cons (.int .i64 bk) (ba.call rfl 146 #[.int .i64 x] ?V ?h) ?_;(case V=>(intro wz;go_simp));(case h=>exact λy J=>(AD.out y).mono λe w' V=>⟨V.1,V.2▸J⟩);simp only[Act.put,ag,ah,ai])
    |(refine aJ.cons ?_ (ba.val rfl ?h) ?_;(case h=>(intro y J;clear J;go_simp;rfl));simp only[Act.put,ag,ah,ai]))
   refine aJ.done λy J=> ?_
   have nR:=ar J;clear J;go_wp2_with fail;refine(FP.out _ nR.out).mono ?_;rintro e w' ⟨rfl,sZ⟩;go_wp2_with fail;go_roundg gg;case measure=>omega
   case rel=>exact⟨k+1,by omega,by go_num,sZ.out⟩
end Go.Proofs.YtcecbdeamjigiaaGreatDoor

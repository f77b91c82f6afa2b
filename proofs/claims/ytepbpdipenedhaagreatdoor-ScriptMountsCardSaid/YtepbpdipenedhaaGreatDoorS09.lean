/- Lemmas. -/
import Derived.Test.YtepbpdipenedhaaGreatDoorS08
import Derived.Deep.DeepCutAuto
set_option maxHeartbeats 8000000
set_option maxRecDepth 100000
namespace Go.Proofs.YtepbpdipenedhaaGreatDoor
open Go.Proofs.Tryz
open Go.RowKit
variable{n:bN}{w:World}{own:List Nat}{p v:Value}{b g gp:Nat}{B:List Int}{ps:List (Int×Int)}
def lJ (n:bN) (own:List Nat):List Int:=if n.K=2 then Ce n own else kP n own
def fE (n:bN) (own:List Nat):List (List Int):=if n.K=2 then tK n.E own 4 else jd n
theorem vX (n:bN):∀k,lH n k=(if 6<(eO n.B).length then 1 else 0)+eY n.E k
 |0=>by rw[lH,eY];rfl
 |k+1=>by rw[lH,eY,vX n k,dN];omega
theorem OA:eO (List.replicate 13 0)=[]:=by kernel_rfl
theorem qO (h:mz n):dS n=eY n.E 4:=by
 rw[dS,vX,h.2.2.1,OA];simp
theorem oQ (h:p8 n):dS n=if 6<(eO n.B).length then 1 else 0:=by
 have y:n.E=[]:=bc h.2.1;rw[dS,vX,y];rfl
theorem IP (n:bN)(own:List Nat):(kP n own).length=8:=by
 have h:=kf n.B 13;have y:(eO n.B).length<=13:=h;unfold kP;split
 ·simp;omega
 ·simp;omega
theorem xz (n:bN)(own:List Nat):(lJ n own).length=8:=by
 unfold lJ;split
 ·rfl
 ·exact IP n own
theorem OB (G:bR n):su n.E:=by
 rcases G.2.2 with ⟨-,z⟩|⟨-,y⟩
 ·have :=z.2.1
  exact⟨by omega,λk h=>by omega,λk h=>by omega⟩
 ·have J:=y.1
  refine⟨by omega,λk h=> ?_,λk h=> ?_⟩
  ·have :=(mX (y.2.2.2 k h).1).2
   rw[kF] at this;omega
  ·have :=(y.2.2.2 k h).2.1
   omega
theorem MQ (n:bN)(v:Value)(g:Nat)(hB:n.B.length=13)(hR:bR n)(hE:br w v g n.E)(vo:Value)(go:Nat)(own:List Nat)(hO:Reads w vo go (cM own))(ho:own.length=dS n)(rI:∀c∈own,c<256):
  Calls prog 201 #[.agg (aU n v),vo] w (mN w (lJ n own) (fE n own)):=by
 have ht:=qa hR;obtain⟨U,z⟩:∃U,U=(w.alloc (.cells (aU n v) 111)).alloc (.cells (aO (List.replicate 8 0)).toArray 195):=⟨_,rfl⟩;have V:bf U w.heap.size (aU n v) 111 :=by
  rw[z];exact(bf.new w _ _).alloc _
 have sB:bf U (w.heap.size+1) (aO (List.replicate 8 0)).toArray 195 :=by
  have :=bf.new (w.alloc (.cells (aU n v) 111)) (aO (List.replicate 8 0)).toArray 195;have e:(w.alloc (.cells (aU n v) 111)).heap.size=w.heap.size+1:=by simp
  rw[e,<-z] at this;exact this
 have eo:ay [] w U:=by
  rw[z];exact((ay.refl [] w).alloc _).alloc _
 have vR:=ar (cC V hB);have cK:U.cell? ⟨w.heap.size,1,none⟩=some (.int .i64 n.K):=by rw[V.cell];exact(jL v hB).f1
 have ai:=jx;have nX:=ar z;have gH:=ar eo;have KZ:=ar sB;have aa:=xz n own;have mJ:Hid (∀W vb gb,ay [] U W->mM W vb gb (fE n own)->w.heap.size<=gb->gb≠w.heap.size+1->∃w2,(storeVar 195 ⟨w.heap.size+1,0,none⟩ (.agg (aO (lJ n own)).toArray)).run prog W= .ok () w2/\(loadVar 195 ⟨w.heap.size+1,0,none⟩).run prog w2= .ok (.agg (aO (lJ n own)).toArray) w2/\mN w (lJ n own) (fE n own) (.returned (.tuple #[.agg (aO (lJ n own)).toArray,vb])) w2):=λW vb gb hk hb hg af=>by
  obtain⟨w2,hS,ae,ac⟩:=bo (P:= prog) (ty:= 195) (cs:=aO (lJ n own)) (by rw[aZ,aa];exact il) (sB.keep hk (by simp)) (by simp[aZ,aa]) (eF _);exact⟨w2,hS,dX ae aa,vb,gb,rfl,hb.keep ac (by intro _;simp;exact af),hg,(eo.trans' hk).trans ac (by intro x hx;rw[au] at hx;omega)⟩
 have ah:w.heap.size+1<U.heap.size:=sB.lt;by_cases hK:n.K=2
 ·have hd:mz n:=(hR.2.2.resolve_left (λh=>by have :=h.1;omega)).2
  have G:lJ n own=Ce n own:=aB hK;have y:fE n own=tK n.E own 4:=aB hK;have HD:=ar (K1 n v g hB ht (hE.keep eo (by simp)) (OB hR) (by have :=hd.1;omega) vo go own (hO.keep eo (by simp)) (by rw[ho,qO hd]) rI);rw[<-G,<-y] at HD;rw[hK] at cK;rw[z] at cK;clear V sB eo z hE hO ho hR ht hd G y hK;generalize lJ n own=RW at *;generalize fE n own=BW at *;generalize aU n v=Z at *;generalize sP:(aO (List.replicate 8 0)).toArray=Z8 at *;go_enter func201,ntmps201;go_wp2_with((with_reducible show wpList _ _ _ (⟨_,.load 111 (.tmp 2),_,_,_,_⟩::_) _ _);rw[<-nX.out];refine ft rfl 111 (.tmp 2) rfl _ rfl _ vR.out ?_);refine HD.out.mono ?_;rintro e W ⟨vb,gb,rfl,hb,hg,J⟩;obtain⟨w2,hS,hL,hM⟩:=mJ.out W vb gb J hb (by have :=gH.out.size;omega) (by omega);have HS:=ar hS;have HL:=ar hL;have HM:=ar hM;clear hS hL hM hb hg J;go_wp2_with(with_reducible refine gS 195 HS.out ?_);exact aL (dc results201 rfl HL.out rfl) rfl HM.out
 ·have hf:p8 n:=(hR.2.2.resolve_right (λh=>hK h.1)).2
  have G:lJ n own=kP n own:=aA hK;have y:fE n own=jd n:=aA hK;have HD:Hid (Calls prog 218 #[.agg (aU n v),vo] U (mN U (kP n own) (jd n))):=by
   have hn:=oQ hf;by_cases h6:(eO n.B).length<=6
   ·exact Ca n v hB ht vo own h6
   ·rw[aB (by omega)] at hn
    refine Gd n v hB ht vo go own (hO.keep eo (by simp)) ?_ (by omega) (by omega);exact rI _ (by rw[aj,aF (by omega:0<own.length)];exact bA _)
  rw[<-G,<-y] at HD;rw[z] at cK;have ag:(n.K==2)=false:=by simpa using hK
  clear V sB eo z hE hO ho hR ht hf G y;generalize lJ n own=RW at *;generalize fE n own=BW at *;generalize n.K=K at *;generalize aU n v=Z at *;generalize sP:(aO (List.replicate 8 0)).toArray=Z8 at *;go_enter func201,ntmps201;go_wp2_with((with_reducible show wpList _ _ _ (⟨_,.load 111 (.tmp 2),_,_,_,_⟩::_) _ _);rw[<-nX.out];refine ft rfl 111 (.tmp 2) rfl _ rfl _ vR.out ?_);refine HD.out.mono ?_;rintro e W ⟨vb,gb,rfl,hb,hg,J⟩;obtain⟨w2,hS,hL,hM⟩:=mJ.out W vb gb J hb (by have :=gH.out.size;omega) (by omega);have HS:=ar hS;have HL:=ar hL;have HM:=ar hM;clear hS hL hM hb hg J;go_wp2_with(with_reducible refine gS 195 HS.out ?_);exact aL (dc results201 rfl HL.out rfl) rfl HM.out
def mQ (X R:List Int) (n:bN) (own:List Nat):Prop:=
 (∀k,k<own.length->(fE n own).getD k []=dz X (1080+8*own.getD k 0))/\lJ n own=R
theorem tO (U:bR n)(z:own.length=dS n):(fE n own).length=own.length:=by
 unfold fE;rcases U.2.2 with ⟨y,G⟩|⟨y,J⟩
 ·rw[aA (by omega),z,oQ G,jd]
  by_cases h:(eO n.B).length<=6
  ·rw[aB h,aA (by omega)];rfl
  ·rw[aA h,aB (by omega)];rfl
 ·rw[aB y,mn,z,qO J]
theorem rK{k:Nat}(y:k<(fE n own).length):((fE n own).getD k []).length=8:=by
 unfold fE at *;by_cases z:n.K=2
 ·rw[aB z] at y ⊢
  rw[mn] at y;obtain⟨b,j,G,J,rfl⟩:=qI n.E y;rw[oP n.E own J G];exact RU (by rw[jr,lq];omega) _
 ·rw[aA z] at y ⊢
  unfold jd at *;have U:(eO n.B).length<=13:=kf n.B 13;by_cases h:(eO n.B).length<=6
  ·rw[aB h] at y;simp at y
  ·rw[aA h] at y ⊢
   obtain rfl:k=0:=by simpa using y
   simp;omega
theorem zN{Ls:List (List Int)}(h:mM w v g Ls){k:Nat}(V:k<Ls.length)(z:(Ls.getD k []).length=8):
  ∃off cap,v= .slice (some ⟨g,off,none⟩) Ls.length cap/\g<w.heap.size/\∀y,y.heap[g]? =w.heap[g]? ->(loadVar 195 ⟨g,off+k*8,none⟩).run prog y= .ok (.agg (aO (Ls.getD k [])).toArray) y:=by
 obtain⟨a,cap,W,h2,h3,h4⟩:=h;obtain⟨Z,off,rfl,U⟩:=h4 (by omega);refine⟨off,cap,W,Z,λy J=>bE g (off+k*8) (aO (Ls.getD k [])) underlying195 rfl (by rw[aZ,z];exact il) λj G=> ?_⟩;rw[aZ,z] at G;rw[aK (w:=w) (a:=⟨g,off+k*8+j,none⟩) J,U k V j G,cG (by rw[z];exact G)]
theorem OC (K4:eT w b gp B ps)(n:bN)(v:Value)(g:Nat)(hB:n.B.length=13)(hR:bR n)(hE:br w v g n.E)(vo:Value)(go:Nat)(own:List Nat)(hO:Reads w vo go (cM own))(ho:own.length=dS n)(rI:∀c∈own,c<256){R:List Int}(aI:R.length=8):
  Calls prog 200 #[.pointer (some ⟨b,0,none⟩),.agg (aO R).toArray,.agg (aU n v),vo] w λe w'=>∃t:Bool,e= .returned (.bool t)/\(t=true↔mQ (az B ps) R n own)/\ay [] w w':=by
 obtain⟨ao,co,rfl,II,aV,Vm⟩:=pq hO;obtain⟨W0,J⟩:∃W0,W0=(w.alloc (.cells (aO R).toArray 195)).alloc (.cells (aU n v) 111):=⟨_,rfl⟩;have qg:bf W0 w.heap.size (aO R).toArray 195 :=by
  rw[J];exact(bf.new w _ _).alloc _
 have AP:bf W0 (w.heap.size+1) (aU n v) 111 :=by
  have :=bf.new (w.alloc (.cells (aO R).toArray 195)) (aU n v) 111;have e:(w.alloc (.cells (aO R).toArray 195)).heap.size=w.heap.size+1:=by simp
  rw[e] at this;rw[J];exact this
 have eo:ay [] w W0:=by
  rw[J];exact((ay.refl _ _).alloc _).alloc _
 have vR:=ar (cC AP hB);have Vy:=ar (MQ n v g hB hR (hE.keep eo (by simp)) (.slice ao own.length co) go own (hO.keep eo (by simp)) ho rI);have aG:=tO hR ho;have K5:Hid (∀k,k<own.length->((fE n own).getD k []).length=8):=λk hk=>rK (by omega)
 have W:=xz n own;have aS:=jx;have aP:own.length<=4001:=by
  rw[ho]
  have :=yJ n (by rcases hR.2.2 with ⟨-,hf⟩|⟨-,hd⟩;·have :=hf.2.1;omega
                  ·have :=hd.1;omega) 4
  unfold dS;have h2:=hR.2.2;rcases h2 with ⟨-,hf⟩|⟨-,hd⟩
  ·have :=oQ hf
   unfold dS at this;rw[this];split<;>omega
  ·have h3:=qO hd
   have Kc:=hd.1;unfold dS at h3;rw[h3];have e0:=jf n.E 0;have e1:=jf n.E 1;have e2:=jf n.E 2;have e3:=jf n.E 3;simp only[eY,dN];omega
 have af:Hid (∀t,(t=true↔mQ (az B ps) R n own)↔(t=true↔((∀k,k<own.length->(fE n own).getD k []=dz (az B ps) (1080+8*own.getD k 0))/\lJ n own=R))):=λt=>Iff.rfl
 have yc:=ar (K4.keep eo (by simp) (by simp));have nX:=ar J;have gH:=ar eo;have Vi:=ar qg;have R6:Hid (∀k,k<own.length->own.getD k 0<256):=λk hk=>rI _ (by rw[aj,aF hk];exact bA hk)
 have yL:=ar aI;have aQ:W0.heap.size=w.heap.size+1+1:=by rw[J];simp
 clear qg AP eo J hE hO hR ho rI hB K4;generalize aL:lJ n own=RW at *;generalize aJ:fE n own=BW at *;generalize aU n v=Z at *;generalize Qz:(aO R).toArray=ZR at *;have ax:=ar Qz;generalize sP:(aO (List.replicate 8 0)).toArray=Z8 at *;have yb:=ar sP;clear aL aJ Qz sP;generalize hn:own.length=nn at *;have HN:=ar hn;clear hn;go_enter func200,ntmps200;go_wp2_with((with_reducible show wpList _ _ _ (⟨_,.load 111 (.tmp 6),_,_,_,_⟩::_) _ _);rw[<-nX.out];refine ft rfl 111 (.tmp 6) rfl _ rfl _ vR.out ?_);refine Vy.out.mono ?_;rintro e w1 ⟨vb,gb,rfl,hb,hg,aa⟩;obtain⟨w2,av,MK,ae⟩:=bo (P:= prog) (ty:= 195) (cs:=aO RW) (by rw[aZ,W];exact il) (bf.new w1 Z8 195) (by rw[<-yb.out];simp[aZ,W]) (eF _);have aM:=aa.size;have Av:=ar av;have fF:Hid (ay [] W0 w2):=(aa.alloc (.cells Z8 195)).trans ae (by intro x z;rw[au] at z;omega);have Xl:=ar MK;have ak:Hid (mM w2 vb gb BW):=by
  obtain⟨a,cap,q1,q2,q3,q4⟩:=hb;refine mM.keep (l:=[w1.heap.size]) ⟨a,cap,q1,q2,q3,q4⟩ (((ay.refl [w1.heap.size] w1).alloc (.cells Z8 195)).trans' ae) λh0 hm=> ?_
  have :=(q4 h0).1;rw[au] at hm;omega
 clear av MK ae aa hb hg aM;generalize aT:w1.heap.size=g9 at *;go_wp2_with(with_reducible refine gS 195 Av.out ?_);go_loopg [21] nn (λgh s21 y=>∃k:Nat,k+gh=nn/\s21= .int .i64 (k:Int)/\Hid ((∀j,j<k->BW.getD j []=dz (az B ps) (1080+8*own.getD j 0))/\ay [] w2 y))
 case atStart=>exact⟨0,by omega,rfl,λj hj=>by omega,ay.refl _ _⟩
 case round=>
  obtain⟨k,hk,rfl,HP⟩:=hrel;obtain⟨G,V⟩:=HP.out;cases gk with
  |zero=>
   obtain rfl:k=nn:=by omega
   have Od:=ar (dX (Xl.out.keep V (by simp)) W);have EG:Hid ((loadVar 195 ⟨w.heap.size,0,none⟩).run prog wr= .ok (.agg ZR) wr):=by
    have :=(Vi.out.keep fF.out (by simp)).keep V (by simp);rw[<-ax.out] at this ⊢;exact dX this yL.out
   have Dv:=λy=>Es (a:=RW) (b:=R) W yL.out y
   have Vl:=qA;rw[ax.out] at Dv;obtain⟨t,ht⟩:∃t,decide (RW=R)=t:=⟨_,rfl⟩;rw[ht] at Dv;have HF:Hid (∃t':Bool,Ending.returned (.bool t)= .returned (.bool t')/\(t'=true↔mQ (az B ps) R n own)/\ay [] w wr):=by
    refine⟨t,rfl,(af.out t).2 ?_,gH.out.trans' (fF.out.trans' V)⟩;rw[<-ht,decide_eq_true_iff];exact⟨λh=>⟨G,h⟩,λh=>h.2⟩
   have aN:=Dv;clear G V HP ht Dv;generalize (aO RW).toArray=ZW at *;go_wp2_with(first|(with_reducible refine gL 195 Od.out ?_)|(with_reducible refine gL 195 EG.out ?_));go_ret;exact HF.out
  |succ gg=>
   have U:k<nn:=by omega
   have aR:(k:Int)<(nn:Int):=by omega
   have eo:(0:Int)<=(k:Int):=by omega
   obtain⟨aB,K0,rfl,YH⟩:=Vm.out k U;have c0:=(aK (w:=w) (w':=wr) (a:=⟨go,K0+k,none⟩) ((gH.out.trans' (fF.out.trans' V)).block go aB (by simp))).trans YH;have z:=R6.out k U;obtain⟨off,cap,rfl,aC,oa⟩:=zN ak.out (k:=k) (by omega) (K5.out k U);rw[aG] at *;have nC:Hid (∀y,ay [] wr y->(loadVar 195 ⟨gb,off+k*8,none⟩).run prog y= .ok (.agg (aO (BW.getD k [])).toArray) y):=λy AU=>oa y ((V.trans' AU).block gb aC (by simp))
   obtain⟨x,ac⟩:∃x,x=own.getD k 0:=⟨_,rfl⟩;rw[<-ac] at z c0;have Dp:=ar (λy=>jI (x:Int) y);have Am:Hid (jH (x:Int)=((1080+8*x:Nat):Int)):=by
    show _=_;rw[jH,aA (by omega)];omega
   rw[Am.out] at Dp;have kH:Hid (∀y,ay [] wr y->Calls prog 141 #[.pointer (some ⟨b,0,none⟩),.int .i64 ((1080+8*x:Nat):Int)] y λe w'=>e= .returned (.agg (aO (dz (az B ps) (1080+8*x))).toArray)/\ay [] y w'):=λy AU=>
    mL (((yc.out.keep fF.out (by simp) (by simp)).keep V (by simp) (by simp)).keep AU (by simp) (by simp)) (1080+8*x) (by omega)
   have Dv:=λy=>Es (a:=BW.getD k []) (b:=dz (az B ps) (1080+8*x)) (K5.out k U) (iB _ _) y
   have Vl:=qA;obtain⟨t,ht⟩:∃t,decide (BW.getD k []=dz (az B ps) (1080+8*x))=t:=⟨_,rfl⟩;rw[ht] at Dv;have Al:=ar G;have iA:=ar V;have HT:Hid (t=true↔BW.getD k []=dz (az B ps) (1080+8*own.getD k 0)):=by
    show _↔_;rw[<-ht,decide_eq_true_iff,ac]
   have YE:=Dv;clear G V HP YH aB aC oa ak ht z ac Am Dv;generalize aD:((1080+8*x:Nat):Int)=px at *;generalize IL:(x:Int)=xi at *;generalize (aO (BW.getD k [])).toArray=ZQ at *;generalize (aO (dz (az B ps) (1080+8*x))).toArray=ZP at *;clear aD IL;cases t;all_goals
    go_wp2_with fail;refine dt (S:=λy=>ay [] wr y) (by kernel_rfl) (by kernel_rfl) (λd _ _ _ _ h=>by cases d<;>exact h) ((ay.refl _ _).drew) (by kernel_rfl) ?_;repeat (first
     |(refine aH.cons (.agg ZQ) (aX.load rfl 195 (.tmp 28) rfl _ rfl λy z=>nC.out y z) ?_;simp only[Act.put,ag,ah,ai])
     |(refine aH.cons (.int .i64 px) (aX.call rfl 149 #[.int .i64 xi] ?he ?h) ?_;(case he=>(intro wz;go_simp));(case h=>exact λy z=>(Dp.out y).mono λe w' he=>⟨he.1,he.2▸z⟩);simp only[Act.put,ag,ah,ai])
     |(refine aH.cons (.agg ZP) (aX.call rfl 141 #[.pointer (some ⟨b,0,none⟩),.int .i64 px] ?he ?h) ?_;(case he=>(intro wz;go_simp));(case h=>exact λy z=>(kH.out y z).mono λe w' he=>⟨he.1,z.trans' he.2⟩);simp only[Act.put,ag,ah,ai])
     |(refine aH.cons ?_ (aX.val rfl ?h) ?_;(case h=>(intro y z;clear z;go_simp;rfl));simp only[Act.put,ag,ah,ai]))
    refine aH.done λwz z=> ?_
    have Ap:=ar z;clear z
   ·have HF:Hid (∃t':Bool,Ending.returned (.bool false)= .returned (.bool t')/\(t'=true↔mQ (az B ps) R n own)/\ay [] w wz):=by
     refine⟨false,rfl,(af.out false).2 ⟨λh=>(by cases h),λh=> ?_⟩,gH.out.trans' (fF.out.trans' (iA.out.trans' Ap.out))⟩;have :=HT.out.2 (h.1 k U);cases this
    go_wp2_with fail;go_ret;exact HF.out
   ·have HN:Hid ((∀j,j<k+1->BW.getD j []=dz (az B ps) (1080+8*own.getD j 0))/\ay [] w2 wz):=by
     refine⟨λj hj=> ?_,iA.out.trans' Ap.out⟩;by_cases e:j=k
     ·subst e;exact HT.out.1 (by trivial)
     ·exact Al.out j (by omega)
    clear Al HT af;go_wp2_with fail;go_roundg gg;case measure=>omega
    case rel=>exact⟨k+1,by omega,by go_num,HN.out⟩
theorem yQ (n:bN)(own:List Nat):(lJ n own).getD 0 0=mA n/\(lJ n own).getD 1 0=n.S:=by
 unfold lJ;split
 ·exact⟨rfl,rfl⟩
 ·unfold kP
  split<;>exact⟨rfl,rfl⟩
theorem IQ (l:List (ByteArray×Int))(j y:Nat)(W:y<7):(dM (uq l j)).getD y 0=if 3*j+y/2<l.length/\y<6 then (if y%2=0 then ((jq (bl (dZ l (3*j+y/2))):Nat):Int) else iC l (3*j+y/2)) else 0:=by
 by_cases h:3*j+y/2<l.length/\y<6
 ·rw[aB h]
  have G:y/2<(uq l j).length:=by rw[lq];omega
  obtain⟨-,V,U⟩:=AQ l j (y/2) G;have J:=rD (uq l j) (y/2) G;rcases (show y%2=0\/y%2=1 by omega) with z|z
  ·rw[aB z,<-V,<-J.1,show y/2*2=y by omega]
  ·rw[aA (by omega),<-U,<-J.2,show y/2*2+1=y by omega]
 ·rw[aA h,aj,aP (by rw[jr,lq];omega)]
  rfl
theorem R7 (h:n.K=2){b:Nat}(y:b<4):(lJ n own).getD (2+b) 0=hdD n.E own b/\(lJ n own).getD 6 0=0/\(lJ n own).getD 7 0=0:=by
 unfold lJ;rw[aB h];refine⟨?_,rfl,rfl⟩;rcases (show b=0\/b=1\/b=2\/b=3 by omega) with rfl|rfl|rfl|rfl<;>rfl
def DD (i:Int) (n:bN):Prop:=(0<=i/\i<32)/\n.F=1/\bR n
instance (i:Int) (n:bN):Decidable (DD i n):=by unfold DD;infer_instance
theorem Vz (i:Int)(n:bN)(v:Value)(g:Nat)(hB:n.B.length=13)(hE:br w v g n.E)(hN:∀k,k<n.E.length->(dZ n.E k).size<=9223372036854775807)(V:¬DD i n):
  Calls prog 172 #[p,.int .i64 i,.agg (aU n v)] w λe w'=>e= .returned (.int .i64 1)/\ay [] w w':=by
 have vt:Hid (∀W,ay [] w W->Calls prog 96 #[.agg (aU n v)] W λe w'=>e= .returned (.bool (decide (bR n)))/\ay [] W w'):=λW hk=>lO n v g hB W (hE.keep hk (by simp)) hN
 have G:=jL v hB;have z:=bf.new w (aU n v) 111;have HL:=ar (cC z hB);have U:=ar (ju i);generalize aU n v=Z at *;have c0:(w.alloc (.cells Z 111)).cell? ⟨w.heap.size,0,none⟩=some (.int .i64 n.F):=by rw[z.cell];exact G.f0
 have HK:Hid (ay [] w (w.alloc (.cells Z 111))):=(ay.refl [] w).alloc _;have jc:=ar V;clear z G hE hN hB V;by_cases hi:i<0\/32<=i
 ·have y:fA i= -1:=by unfold fA;rw[aB hi]
  rw[y] at U;clear y;go_enter func172,ntmps172;go_wp2_with fail;refine(U.out _).mono ?_;rintro e w' ⟨rfl,rfl⟩;go_wp2_with fail;go_ret;exact⟨rfl,HK.out⟩
 ·have y:fA i=((824+8*i.toNat:Nat):Int):=by unfold fA;rw[aA hi];omega
  rw[y] at U;have aa:(0:Int)<=((824+8*i.toNat:Nat):Int):=by omega
  generalize ((824+8*i.toNat:Nat):Int)=q at *;clear y;by_cases hF:n.F=1
  ·have HQ:Hid (decide (bR n)=false):=aM λh=>jc.out ⟨by omega,hF,h⟩
   rw[hF] at c0;rw[HQ.out] at vt;go_enter func172,ntmps172;go_wp2_with fail;refine(U.out _).mono ?_;rintro e w' ⟨rfl,rfl⟩;go_wp2_with((with_reducible show wpList _ _ _ (⟨_,.load 111 (.tmp 5),_,_,_,_⟩::_) _ _);refine dC (by simp[Region.wanted,yielded,aa]) 111 (.tmp 5) rfl _ rfl _ HL.out ?_);refine(vt.out _ HK.out).mono ?_;rintro e w1 ⟨rfl,J⟩;have jl:=ar (HK.out.trans' J);clear J;go_wp2_with fail;go_ret;exact⟨rfl,jl.out⟩
  ·have ac:(n.F != 1)=true:=bne_iff_ne.2 hF
   generalize n.F=f at *;go_enter func172,ntmps172;go_wp2_with fail;refine(U.out _).mono ?_;rintro e w' ⟨rfl,rfl⟩;go_wp2_with fail;go_ret;exact⟨rfl,HK.out⟩
theorem OD (h:eT w b gp B ps)(aa:In64 (az B ps))(i:Int)(n:bN)(v:Value)(g:Nat)(W:n.B.length=13)(hE:br w v g n.E)(hN:∀k,k<n.E.length->(dZ n.E k).size<=9223372036854775807)
  (z:DD i n) (R9:(bp (az B ps)).length<ez n):
  Calls prog 172 #[.pointer (some ⟨b,0,none⟩),.int .i64 i,.agg (aU n v)] w λe w'=>e= .returned (.int .i64 7)/\ay [] w w':=by
 have vt:Hid (∀y,ay [] w y->Calls prog 96 #[.agg (aU n v)] y λe w'=>e= .returned (.bool true)/\ay [] y w'):=λy hk=>by
  have :=lO n v g W y (hE.keep hk (by simp)) hN;rwa[bh z.2.2] at this
 have af:=(iZ z.2.2).1;have xA:Hid (∀y,Calls prog 194 #[.agg (aU n v)] y λe w'=>e= .returned (.int .i64 ((ez n:Nat):Int))/\ay [] y w'):=λy=>by
  obtain⟨a,cap,rfl,-⟩:=hE;exact MG n a cap W (by omega) y
 have K6:Hid (∀y,ay [] w y->Calls prog 151 #[.pointer (some ⟨b,0,none⟩),.int .i64 ((ez n:Nat):Int)] y λe w'=>e= .returned (.tuple #[.slice none 0 0,.int .i64 7])/\y=w'):=λy hk=>
  zM (h.keep hk (by simp) (by simp)) aa (ez n) R9
 have U:=jL v W;have J:=bf.new w (aU n v) 111;have HL:Hid (∀y,ay [] (w.alloc (.cells (aU n v) 111)) y->(loadVar 111 ⟨w.heap.size,0,none⟩).run prog y= .ok (.agg (aU n v)) y):=λy hk=>cC (J.keep hk (by simp)) W
 have HI:=ar (ju i);generalize aU n v=Z at *;have c0:(w.alloc (.cells Z 111)).cell? ⟨w.heap.size,0,none⟩=some (.int .i64 1):=by rw[J.cell,<-z.2.1];exact U.f0
 have HK:Hid (ay [] w (w.alloc (.cells Z 111))):=(ay.refl [] w).alloc _;have V:fA i=((824+8*i.toNat:Nat):Int):=by unfold fA;rw[aA (by have :=z.1;omega)];have :=z.1;omega
 rw[V] at HI;have ae:(0:Int)<=((824+8*i.toNat:Nat):Int):=by omega
 generalize ((824+8*i.toNat:Nat):Int)=q at *;clear J U hE hN W V z h aa R9;have Dw:=ar (HL.out _ (ay.refl [] _));generalize ((ez n:Nat):Int)=nn at *;go_enter func172,ntmps172;go_wp2_with fail;refine(HI.out _).mono ?_;rintro e w' ⟨rfl,rfl⟩;go_wp2_with((with_reducible show wpList _ _ _ (⟨_,.load 111 (.tmp 5),_,_,_,_⟩::_) _ _);refine dC (by simp[Region.wanted,yielded,ae]) 111 (.tmp 5) rfl _ rfl _ Dw.out ?_);refine(vt.out _ HK.out).mono ?_;rintro e w1 ⟨rfl,G⟩;have jl:=ar (HK.out.trans' G);have uI:=ar (HL.out _ G);clear G;go_wp2_with(with_reducible refine gL 111 uI.out ?_);refine(xA.out _).mono ?_;rintro e w2 ⟨rfl,ac⟩;have fF:=ar (jl.out.trans' ac);clear ac;go_wp2_with fail;refine(K6.out _ fF.out).mono ?_;rintro e w3 ⟨rfl,rfl⟩;go_wp2_with fail;go_ret;exact⟨rfl,fF.out⟩
def w4 (ws:List Nat):Array Value:= #[.int .u64 ((ws.getD 0 0:Nat):Int),.int .u64 ((ws.getD 1 0:Nat):Int),.int .u64 ((ws.getD 2 0:Nat):Int),.int .u64 ((ws.getD 3 0:Nat):Int)]
theorem OE{l:List Nat}(h:Reads w v g (cM l)):∃a cap,v= .slice a l.length cap/\l.length<=cap/\cap<=maxLen/\
  Hid (∀k,k<l.length->g<w.heap.size/\∃off,a=some ⟨g,off,none⟩/\w.cell? ⟨g,off+k,none⟩=some (.int .i64 ((l.getD k 0:Nat):Int))):=by
 obtain⟨a,cap,U,V,z,G⟩:=h;rw[gD] at *;refine⟨a,cap,U,V,z,λk y=> ?_⟩;obtain⟨W,off,Z,J⟩:=G (by intro e;have :=b8 List.length e;rw[gD,b9] at this;omega);exact⟨W,off,Z,(J k y).trans (nL y)⟩
theorem VA{P:Program}{ty e:TypeId}{off T:Nat}{Z:Array Value}(y:P.underlying ty=some (.slice e))(z:bf w g Z T)(J:Z[off]? =some v):(loadVar ty ⟨g,off,none⟩).run P w= .ok v w:=by
 have h:(isAgg ty).run P w= .ok false w:=by
  unfold isAgg;rw[bM,cP y w];rfl
 have G:w.cell? ⟨g,off,none⟩=some v:=by rw[z.cell,J]
 simp[loadVar,h,G]
theorem YU (h:eT w b gp B ps)(bw:In64 (az B ps))(hT:lC w)(Dn:gp<w.heap.size)(bc:ps.length<=800000)(i:Int)(n:bN)(v:Value)(g:Nat)(hB:n.B.length=13)(hE:br w v g n.E)
  (hN:∀k,k<n.E.length->(dZ n.E k).size<=9223372036854775807) (ac:DD i n) (bg:n.E.length≠0->g≠b/\g≠gp) (hn:ez n<=(bp (az B ps)).length):
  Calls prog 172 #[.pointer (some ⟨b,0,none⟩),.int .i64 i,.agg (aU n v)] w λe w'=>e= .returned (.int .i64 0)/\Onto w b gp B (ps++mP (az B ps) i.toNat n ((bp (az B ps)).take (ez n))) w':=by
 have vt:Hid (∀y,ay [] w y->Calls prog 96 #[.agg (aU n v)] y λe w'=>e= .returned (.bool true)/\ay [] y w'):=λy W=>by
  have :=lO n v g hB y (hE.keep W (by simp)) hN;rwa[bh ac.2.2] at this
 have bJ:=iZ ac.2.2;have xA:Hid (∀y,Calls prog 194 #[.agg (aU n v)] y λe w'=>e= .returned (.int .i64 ((ez n:Nat):Int))/\ay [] y w'):=λy=>by
  obtain⟨a,cap,rfl,-⟩:=hE;exact MG n a cap hB (by omega) y
 have Ug:Hid (∀y,Calls prog 192 #[.agg (aU n v)] y λe w'=>e= .returned (.int .i64 ((aY n.E.length:Nat):Int))/\ay [] y w'):=λy=>by
  obtain⟨a,cap,rfl,-⟩:=hE;exact pg n a cap hB (by omega) y
 have bB:=yu (az B ps);have K6:Hid (∀y,ay [] w y->Calls prog 151 #[.pointer (some ⟨b,0,none⟩),.int .i64 ((ez n:Nat):Int)] y (xy y b gp B ps ((bp (az B ps)).take (ez n)))):=λy W=>
  EJ (h.keep W (by simp) (by simp)) bw (hT.keep W) (bt Dn W.size) (by omega) (ez n) hn
 have AH:Hid (∀c∈(bp (az B ps)).take (ez n),c≠0/\c<256):=λc hc=>by
  have :=ka.1 (bQ hc);exact⟨this.2.1,this.1⟩
 have av:((bp (az B ps)).take (ez n)).length=ez n:=by rw[aI,cA hn]
 have cn:aY n.E.length<=ez n/\ez n<=aY n.E.length+1:=by unfold ez;split<;>omega
 have aN:=jL v hB;have aJ:=bf.new w (aU n v) 111;have b9:=h.raw.lt;have HI:=ar (ju i);have bX:=ar (qa ac.2.2);have bZ:=ar (IM ac.2.2 hN);have HR:=ar ac.2.2;have HB:=ar hB;have Xq:Hid (∀(l:List Int) (aa:Int),l.length=13->Ym l->0<=aa/\aa<9223372036854775808->∀y,Calls prog 193 #[.agg (aU n v),.agg (zs l).toArray,.int .i64 aa] y λe w'=>e= .returned (.agg (aO (fV n l aa)).toArray)/\ay [] y w'):=λl aa hl bR h0 y=>zE n v hB bX.out l hl bR aa h0 y
 have oO:Hid (∀y,bf y w.heap.size (aU n v) 111->(loadVar 111 ⟨w.heap.size,0,none⟩).run prog y= .ok (.agg (aU n v)) y/\(loadVar 109 ⟨w.heap.size,4,none⟩).run prog y= .ok (.agg (zs n.B).toArray) y):=λy hb=>⟨cC hb hB,YT hb hB⟩
 have DF:Hid (mP (az B ps) i.toNat n ((bp (az B ps)).take (ez n))=dE (az B ps) ((bp (az B ps)).take (ez n))++rJ i.toNat n ((bp (az B ps)).take (ez n))):=rfl;have Dd:Hid ((dE (az B ps) ((bp (az B ps)).take (ez n))).length=9*ez n):=by
  show _=_;rw[o8 _ _ AH.out,av]
 generalize bF:(bp (az B ps)).take (ez n)=own at *;generalize mP (az B ps) i.toNat n own=aP at *;generalize Sa:dE (az B ps) own=Sb at *;have YV:=ar Sa;clear Sa;have aZ:fA i=((824+8*i.toNat:Nat):Int):=by unfold fA;rw[aA (by have :=ac.1;omega)];have :=ac.1;omega
 rw[aZ] at HI;have kg:i.toNat<32:=by have :=ac.1;omega
 have c0:(w.alloc (.cells (aU n v) 111)).cell? ⟨w.heap.size,0,none⟩=some (.int .i64 1):=by rw[aJ.cell,<-ac.2.1];exact aN.f0
 generalize hZ:aU n v=Z at *;have bH:Z[17]? =some v:=aN.f5;have HK:Hid (ay [] w (w.alloc (.cells Z 111))):=(ay.refl [] w).alloc _;have nW:=ar aJ;have HE:=ar hE;have HS:=ar h;have Af:=ar bc;have Dw:=ar (oO.out _ aJ).1;generalize hq:824+8*i.toNat=q at *;have HQ:Hid (q=824+8*i.toNat):=hq.symm;have YW:q+8<=3128:=by omega
 clear hq kg;have bO:(0:Int)<=(q:Int):=by omega
 clear aJ aN hE hN hB aZ h bw hT bB hn bF bc;go_enter func172,ntmps172;go_wp2_with fail;refine(HI.out _).mono ?_;rintro e w' ⟨rfl,rfl⟩;go_wp2_with((with_reducible show wpList _ _ _ (⟨_,.load 111 (.tmp 5),_,_,_,_⟩::_) _ _);refine dC (by simp[Region.wanted,yielded,bO]) 111 (.tmp 5) rfl _ rfl _ Dw.out ?_);refine(vt.out _ HK.out).mono ?_;rintro e w1 ⟨rfl,aR⟩;have jl:=ar (HK.out.trans' aR);have qD:=ar (nW.out.keep aR (by simp));have uI:=ar (oO.out _ qD.out).1;clear aR Dw nW HK;go_wp2_with(with_reducible refine gL 111 uI.out ?_);refine(xA.out _).mono ?_;rintro e w2 ⟨rfl,U⟩;have fF:=ar (jl.out.trans' U);have oL:=ar (qD.out.keep U (by simp));clear U jl qD uI xA vt;go_wp2_with fail;refine(K6.out _ fF.out).mono ?_;rintro e w3 ⟨vo,go,rfl,aW,cd,cg,mf,YX,ct,aT,ax⟩;rw[YV.out] at aT;have bv:=fF.out.size;have cm:=oL.out.lt;have p9:=ar (oL.out.keep ax (by simp only[aQ,aS,bD];omega));have bj:Hid (br w3 v g n.E):=(HE.out.keep fF.out (by simp)).keep ax (λbT=>by have :=bg bT;simp only[aQ,aS,bD];omega);have lV:Hid (ay [b,gp] w w3):=(fF.out.mono (by simp)).trans' ax;have uz:=ar aT;have Cc:=ar aW;have zO:=ar (oO.out _ p9.out).1;have cu:=ax.size;obtain⟨a,oc,rfl,IU,DG,-⟩:=aW;have Uj:Hid ((cM own).length=ez n):=by show _=_;rw[gD,av]
 rw[Uj.out] at IU Cc ⊢;have Sc:Hid (n.E.length≠0->g∉[b,mf]):=λh0 hm=>by
  have h1:=bg h0;have h2:g<w.heap.size:=by
   rcases dg g w.heap.size with h|h
   ·exact h
   ·exact absurd (au.2 rfl) (HE.out.apart (l:=[g]) (λx z=>by rw[au] at z;omega) h0)
  simp only[aQ,aS,bD] at hm;rcases hm with rfl|rfl
  ·exact h1.1 rfl
  ·omega
 clear K6 fF oL HE HS ax aT;have Oa:=mH;go_wp2_with(with_reducible refine gL 111 zO.out ?_);refine(Ug.out _).mono ?_;rintro e w4 ⟨rfl,ae⟩;have vv:=ar (p9.out.keep ae (by simp));have Sd:=ar (bj.out.keep ae (by simp));have oN:=ar (lV.out.trans' (ae.mono (by simp)));have wQ:=ar (uz.out.keep ae (by simp) (by simp));have YY:=ar (Cc.out.keep ae (by simp));have cr:=ae.size;have bl:=ar (oO.out _ vv.out).2;have Se:=bf.new w4 (zs (List.replicate 13 0)).toArray 109;obtain⟨w5,xm,qg,kr⟩:=bo (P:= prog) (ty:= 109) (cs:=zs n.B) (by rw[dG,HB.out];exact jC) Se (by simp[dG,HB.out]) (kD _);have xo:=ar xm;have pB:ay [] w4 w5.drew:=(((ay.refl [] w4).alloc _).trans kr (by intro x z;rw[au] at z;omega)).drew;have YZ:=YY.out.keep pB (by simp);rw[<-av] at YZ;obtain⟨vc,w6,EF,AP,jZ⟩:=Oy (n:=13) (cap:=13) (m:=aY n.E.length) (mc:=oc) qg.drew YZ (by omega) (by rw[HB.out];omega) (by omega);have Ui:=ar EF;have DI:ay [] w4 w6:=pB.trans jZ (by intro x z;rw[au] at z;omega);have Xj:=ar (vv.out.keep DI (by simp));have bI:=ar (Sd.out.keep DI (by simp));have nM:=ar (oN.out.trans' (DI.mono (by simp)));have K7:=ar (wQ.out.keep DI (by simp) (by simp));have bE:=ar (YY.out.keep DI (by simp));have Y0:bf w6 w4.heap.size (zs (dv n own)).toArray 109 :=AP;have bC:=ar Y0;have b7:=DI.size;have b8:=Y0.lt;have bY:=Oz w4.heap.size;have bz:=K3 a (ez n) oc (aY n.E.length) (by omega);have Er:=ar (qM (own:=own) HB.out (by omega) (by omega));have R6:=ar (yP HR.out HB.out (by omega) AH.out);have vR:Hid (aY n.E.length<own.length->eG n own=own.getD (aY n.E.length) 0/\nv n own=jz (1080+8*eG n own) ((dv n own).drop 5) 8):=λhc=>by
  refine⟨by unfold eG;rw[aB hc],by unfold nv;rw[aB hc]⟩
 have DJ:Hid (¬aY n.E.length<own.length->eG n own=0/\nv n own=[]):=λhc=>by
  refine⟨by unfold eG;rw[aA hc],by unfold nv;rw[aA hc]⟩
 have Qw:Hid (aP=Sb++(pA n.E (dv n own) (aY n.E.length)++(nv n own++jz q (fV n (dv n own) ((eG n own:Nat):Int)) 8))):=by
  have h1:=DF.out;unfold rJ at h1;rw[<-HQ.out] at h1;exact h1
 have xj:Hid (∀k,k<aY n.E.length->4*k<n.E.length):=λk W=>by unfold aY at W;omega
 have Y1:=Dd.out;have cf:=Af.out;clear xm qg kr pB EF AP jZ DI Y0 Se DF Ug zO lV uz bj p9 Cc oN wQ Sd vv YY YZ ae;generalize yR:aY n.E.length=V at *;generalize (zs n.B).toArray=ZB at *;generalize (zs (List.replicate 13 0)).toArray=ZN at *;go_wp2_with(first|(with_reducible refine gL 109 bl.out ?_)|(with_reducible refine gS 109 xo.out ?_));refine fU (l:=[_,_,_,_]) (o:=_) (S:=λy=>y=w5.drew) (by kernel_rfl) rfl (by kernel_rfl) (λd _ _ _ _ h=>by cases d<;>exact h) rfl (by kernel_rfl) (by kernel_rfl) ?_;repeat (refine aH.cons ?_ (aX.val rfl ?h) ?_;(case h=>(intro y z;go_simp;rfl));simp only[Act.put,ag,ah,ai])
 refine aH.done λy z=> ?_
 subst z;refine gW rfl (.tmp 40) (.tmp 43) 141 141 rfl _ _ rfl rfl (Ui.out _) ?_;clear bY bz xo bl Ui Oa;have bM:Hid (mf=gp\/(w.heap.size<=mf/\mf<w6.heap.size)):=by show _\/_;omega
 have ck:b<w.heap.size/\w.heap.size<w4.heap.size/\mf<w6.heap.size/\mf≠w.heap.size/\mf≠w4.heap.size/\go<w4.heap.size/\w.heap.size<=go:=by omega
 have cp:go<w6.heap.size:=by omega
 generalize w4.heap.size=lb at *;have HX:Hid (∀y,ay [b,mf] w6 y->bf y w.heap.size Z 111/\br y v g n.E/\Reads y (.slice a (ez n) oc) go (cM own)/\bf y lb (zs (dv n own)).toArray 109):=λy W=>by
  refine⟨Xj.out.keep W ?_,bI.out.keep W Sc.out,bE.out.keep W ?_,bC.out.keep W ?_⟩
  ·simp only[aQ,aS,bD];omega
  ·simp only[aQ,aS,bD];omega
  ·simp only[aQ,aS,bD];omega
 have bn:Hid (Onto w6 b mf B (ps++(Sb++pA n.E (dv n own) 0)) w6):=by
  show Onto _ _ _ _ _ _;rw[show pA n.E (dv n own) 0=[] from rfl,bq];exact Onto.refl K7.out
 have YF:Hid (V<=6):=bJ.2.1;have HF:Hid (∀(x:Int),x=((eG n own:Nat):Int)->∀wy,Onto w6 b mf B (ps++(Sb++(pA n.E (dv n own) V++nv n own))) wy->∀y,ay [] wy y->
   (loadVar 111 ⟨w.heap.size,0,none⟩).run prog y= .ok (.agg Z) y/\(loadVar 109 ⟨lb,0,none⟩).run prog y= .ok (.agg (zs (dv n own)).toArray) y/\
   Calls prog 193 #[.agg Z,.agg (zs (dv n own)).toArray,.int .i64 x] y (λe w'=>e= .returned (.agg (aO (fV n (dv n own) x)).toArray)/\ay [] y w')/\
   Calls prog 195 #[.pointer (some ⟨b,0,none⟩),.int .i64 (q:Int),.agg (aO (fV n (dv n own) x)).toArray] y (λe w'=>e= .returned (.tuple #[])/\Hid (Onto w b gp B (ps++aP) w'))):=by
  rintro x rfl wy ⟨xe,K8,af,U⟩ y W;obtain⟨ak,-,-,Y2⟩:=HX.out _ U;have wP:eG n own<256:=by
   by_cases hc:V<own.length
   ·have h1:=AH.out (own.getD V 0) (by rw[aj,aF hc];exact bA _)
    rw[(vR.out hc).1];exact h1.2
   ·rw[(DJ.out hc).1];omega
  have Xr:(nv n own).length<=8:=by
   by_cases hc:V<own.length
   ·rw[(vR.out hc).2,np];omega
   ·rw[(DJ.out hc).2];simp
  have Qy:=ak.keep W (by simp);have bK:=Y2.keep W (by simp);have bU:(fV n (dv n own) ((eG n own:Nat):Int)).length=8:=by simp[fV,Er.out]
  refine⟨(oO.out _ Qy).1,eN (off:=0) bK Er.out (λk W=>by rw[aV,aC,fp (by rw[Er.out];exact W)]),Xq.out _ _ Er.out (λk=>by have :=R6.out k;omega) (by omega) y,?_⟩;have h1:=qF (af.keep W (by simp) (by simp)) (by simp only[aD,uw,Y1];omega) q (by omega) (fV n (dv n own) ((eG n own:Nat):Int)) bU;refine h1.mono ?_;rintro e w' ⟨G,h2⟩;refine⟨G,?_⟩;have e1:ps++(Sb++(pA n.E (dv n own) V++nv n own))++jz q (fV n (dv n own) ((eG n own:Nat):Int)) 8=ps++aP:=by rw[Qw.out];simp only[ba]
  rw[e1] at h2;have bv:=U.size;exact Onto.trans bM.out nM.out (Onto.trans K8 U (Onto.mono W (by omega) h2))
 go_wp2_with fail;go_loopg [46] V (λgh s46 y=>∃k:Nat,k+gh=V/\s46= .int .i64 (k:Int)/\Hid (Onto w6 b mf B (ps++(Sb++pA n.E (dv n own) k)) y))
 case atStart=>exact⟨0,by omega,rfl,bn.out⟩
 case round=>
  clear bn;obtain⟨k,W,rfl,HP⟩:=hrel;obtain⟨xe,K8,af,U⟩:=HP.out;obtain⟨ak,aL,aG,Y2⟩:=HX.out _ U;have bv:=U.size;cases gk with
  |zero=>
   obtain rfl:k=V:=by omega
   by_cases hc:k<own.length
   ·obtain⟨wP,Xr⟩:=vR.out hc
    obtain⟨off,bb,bL⟩:∃off,a=some ⟨go,off,none⟩/\wr.cell? ⟨go,off+k,none⟩=some (.int .i64 ((eG n own:Nat):Int)):=by
     obtain⟨a',b6,G,-,-,HC⟩:=OE aG
     injection G with h1 h2 h3
     subst h1;obtain⟨-,off,ho,bG⟩:=HC.out k hc;exact⟨off,ho,by rw[bG,wP]⟩
    have Y3:eG n own<256:=by
     have h1:=AH.out (own.getD k 0) (by rw[aj,aF hc];exact bA _);rw[wP];exact h1.2
    have nC:Hid (∀y,ay [] wr y->(loadVar 109 ⟨lb,0,none⟩).run prog y= .ok (.agg (zs (dv n own)).toArray) y):=λy J=>
     eN (off:=0) (Y2.keep J (by simp)) Er.out (λk W=>by rw[aV,aC,fp (by rw[Er.out];exact W)])
    have AO:Hid (∀y,Calls prog 149 #[.int .i64 ((eG n own:Nat):Int)] y λe w'=>e= .returned (.int .i64 ((1080+8*eG n own:Nat):Int))/\y=w'):=λy=>by
     have :=jI ((eG n own:Nat):Int) y;rwa[jH,aA (by omega),show 1080+((eG n own:Nat):Int)*8=((1080+8*eG n own:Nat):Int) by omega] at this
    have QD:Hid (∀y,Calls prog 197 #[.agg (zs (dv n own)).toArray] y λe w'=>e= .returned (.agg (aO ((dv n own).drop 5)).toArray)/\ay [] y w'):=λy=>KP _ Er.out (λk=>by have :=R6.out k;omega) y
    have F4:Hid (∀y,ay [] wr y->Calls prog 195 #[.pointer (some ⟨b,0,none⟩),.int .i64 ((1080+8*eG n own:Nat):Int),.agg (aO ((dv n own).drop 5)).toArray] y λe w'=>e= .returned (.tuple #[])/\Onto w6 b mf B (ps++(Sb++(pA n.E (dv n own) k++nv n own))) w'):=λy J=>by
     have h1:=qF (af.keep J (by simp) (by simp)) (by simp only[aD,uw,Y1];omega) (1080+8*eG n own) (by omega) ((dv n own).drop 5) (by rw[bu,Er.out]);refine h1.mono ?_;rintro e w' ⟨G,h2⟩;refine⟨G,?_⟩;rw[ba,ba,<-Xr] at h2;exact Onto.trans K8 U (Onto.mono J (by omega) h2)
    have bP:(k:Int)<((ez n:Nat):Int):=by omega
    have eo:(0:Int)<=(k:Int):=by omega
    subst bb;have HF:=ar (HF.out ((eG n own:Nat):Int) rfl);clear HP af ak aL aG Y2 vR DJ wP Xr HX;generalize (aO (fV n (dv n own) ((eG n own:Nat):Int))).toArray=ZR at *;generalize (aO ((dv n own).drop 5)).toArray=ZD at *;generalize (zs (dv n own)).toArray=ZL at *;generalize ((1080+8*eG n own:Nat):Int)=bk at *;generalize ((eG n own:Nat):Int)=li at *;go_wp2_with fail;refine fU (l:=[_,_,_,_,_]) (o:=_) (S:=λy=>ay [] wr y) (by kernel_rfl) rfl (by kernel_rfl) (λd _ _ _ _ h=>by cases d<;>exact h) ((ay.refl _ _).drew) (by kernel_rfl) (by kernel_rfl) ?_;repeat (first
     |(refine aH.cons (.agg ZL) (aX.load rfl 109 (.tmp 10) rfl _ rfl λy z=>nC.out y z) ?_;simp only[Act.put,ag,ah,ai])
     |(refine aH.cons (.int .i64 bk) (aX.call rfl 149 #[.int .i64 li] ?G ?h) ?_;(case G=>(intro wz;go_simp));(case h=>exact λy z=>(AO.out y).mono λe w' G=>⟨G.1,G.2▸z⟩);simp only[Act.put,ag,ah,ai])
     |(refine aH.cons (.agg ZD) (aX.call rfl 197 #[.agg ZL] ?G ?h) ?_;(case G=>(intro wz;go_simp));(case h=>exact λy z=>(QD.out y).mono λe w' G=>⟨G.1,z.trans' G.2⟩);simp only[Act.put,ag,ah,ai])
     |(refine aH.cons ?_ (aX.val rfl ?h) ?_;(case h=>(intro y z;clear z;go_simp;rfl));simp only[Act.put,ag,ah,ai]))
    refine aH.done λy z=> ?_
    have oF:=ar z;clear z;go_wp2_with fail;refine(F4.out _ oF.out).mono ?_;rintro e w7 ⟨rfl,uK⟩;have aK:=ar (HF.out w7 uK);clear HF uK oF F4 QD nC AO;go_wp2_with fail;refine fU (l:=[_,_,_,_,_,_,_]) (o:=_) (S:=λy=>ay [] w7 y) (by kernel_rfl) rfl (by kernel_rfl) (λd _ _ _ _ h=>by cases d<;>exact h) ((ay.refl _ _).drew) (by kernel_rfl) (by kernel_rfl) ?_;repeat (first
     |(refine aH.cons (.agg Z) (aX.load rfl 111 (.tmp 5) rfl _ rfl λy z=>(aK.out y z).1) ?_;simp only[Act.put,ag,ah,ai])
     |(refine aH.cons (.agg ZL) (aX.load rfl 109 (.tmp 10) rfl _ rfl λy z=>(aK.out y z).2.1) ?_;simp only[Act.put,ag,ah,ai])
     |(refine aH.cons (.int .i64 (q:Int)) (aX.call rfl 137 #[.int .i64 i] ?G ?h) ?_;(case G=>(intro wz;go_simp));(case h=>exact λy z=>(HI.out y).mono λe w' G=>⟨G.1,G.2▸z⟩);simp only[Act.put,ag,ah,ai])
     |(refine aH.cons (.agg ZR) (aX.call rfl 193 #[.agg Z,.agg ZL,.int .i64 li] ?G ?h) ?_;(case G=>(intro wz;go_simp));(case h=>exact λy z=>(aK.out y z).2.2.1.mono λe w' G=>⟨G.1,z.trans' G.2⟩);simp only[Act.put,ag,ah,ai])
     |(refine aH.cons ?_ (aX.val rfl ?h) ?_;(case h=>(intro y z;clear z;go_simp;rfl));simp only[Act.put,ag,ah,ai]))
    refine aH.done λy z=> ?_
    have oF:=ar z;clear z;go_wp2_with fail;refine(aK.out _ oF.out).2.2.2.mono ?_;rintro e w' ⟨rfl,uK⟩;go_wp2_with fail;go_ret;exact⟨rfl,uK.out⟩
   ·obtain⟨wP,Xr⟩:=DJ.out hc
    have aM:=ar (HF.out 0 (by rw[wP];rfl) wr (by rw[Xr,bq];exact HP.out));have cj:¬(k:Int)<((ez n:Nat):Int):=by omega
    clear HF HP af ak aL aG Y2 vR DJ wP Xr HX;generalize (aO (fV n (dv n own) 0)).toArray=ZR at *;generalize (zs (dv n own)).toArray=ZL at *;go_wp2_with fail;refine fU (l:=[_,_,_,_,_,_,_]) (o:=_) (S:=λy=>ay [] wr y) (by kernel_rfl) rfl (by kernel_rfl) (λd _ _ _ _ h=>by cases d<;>exact h) ((ay.refl _ _).drew) (by kernel_rfl) (by kernel_rfl) ?_;repeat (first
     |(refine aH.cons (.agg Z) (aX.load rfl 111 (.tmp 5) rfl _ rfl λy z=>(aM.out y z).1) ?_;simp only[Act.put,ag,ah,ai])
     |(refine aH.cons (.agg ZL) (aX.load rfl 109 (.tmp 10) rfl _ rfl λy z=>(aM.out y z).2.1) ?_;simp only[Act.put,ag,ah,ai])
     |(refine aH.cons (.int .i64 (q:Int)) (aX.call rfl 137 #[.int .i64 i] ?G ?h) ?_;(case G=>(intro wz;go_simp));(case h=>exact λy z=>(HI.out y).mono λe w' G=>⟨G.1,G.2▸z⟩);simp only[Act.put,ag,ah,ai])
     |(refine aH.cons (.agg ZR) (aX.call rfl 193 #[.agg Z,.agg ZL,.int .i64 0] ?G ?h) ?_;(case G=>(intro wz;go_simp));(case h=>exact λy z=>(aM.out y z).2.2.1.mono λe w' G=>⟨G.1,z.trans' G.2⟩);simp only[Act.put,ag,ah,ai])
     |(refine aH.cons ?_ (aX.val rfl ?h) ?_;(case h=>(intro y z;clear z;go_simp;rfl));simp only[Act.put,ag,ah,ai]))
    refine aH.done λy z=> ?_
    have oF:=ar z;clear z;go_wp2_with fail;refine(aM.out _ oF.out).2.2.2.mono ?_;rintro e w' ⟨rfl,uK⟩;go_wp2_with fail;go_ret;exact⟨rfl,uK.out⟩
  |succ gg=>
   have bS:k<V:=by omega
   have bP:(k:Int)<(V:Int):=by omega
   have eo:(0:Int)<=(k:Int):=by omega
   have pW:(k:Int)<13:=by omega
   have MM:=R6.out k;have bV:Hid (∀y,ay [] wr y->(loadVar 3 ⟨lb,k,none⟩).run prog y= .ok (.int .i64 ((dv n own).getD k 0)) y):=λy J=>BF (off:=k) underlying3 (Y2.keep J (by simp)) (by rw[aC,fp (by rw[Er.out];omega)])
   have bW:Hid (∀y,ay [] wr y->(loadVar 32 ⟨w.heap.size,17,none⟩).run prog y= .ok v y):=λy J=>VA (off:=17) underlying32 (ak.keep J (by simp)) bH
   have AO:Hid (∀y,Calls prog 149 #[.int .i64 ((dv n own).getD k 0)] y λe w'=>e= .returned (.int .i64 ((1080+8*((dv n own).getD k 0).toNat:Nat):Int))/\y=w'):=λy=>by
    have :=jI ((dv n own).getD k 0) y;rwa[jH,aA (by omega),show 1080+(dv n own).getD k 0*8=((1080+8*((dv n own).getD k 0).toNat:Nat):Int) by omega] at this
   have Ao:Hid (∀y,ay [] wr y->Calls prog 196 #[v,.int .i64 (k:Int)] y λe w'=>e= .returned (.agg (aO (gI n.E k)).toArray)/\ay [] y w'):=λy J=>tH (aL.keep J (by simp)) bZ.out k (xj.out k bS)
   have F4:Hid (∀y,ay [] wr y->Calls prog 195 #[.pointer (some ⟨b,0,none⟩),.int .i64 ((1080+8*((dv n own).getD k 0).toNat:Nat):Int),.agg (aO (gI n.E k)).toArray] y λe w'=>e= .returned (.tuple #[])/\Hid (Onto w6 b mf B (ps++(Sb++pA n.E (dv n own) (k+1))) w')):=λy J=>by
    have h1:=qF (af.keep J (by simp) (by simp)) (by simp only[aD,uw,Y1];omega) (1080+8*((dv n own).getD k 0).toNat) (by omega) (gI n.E k) (jS _ _ _);refine h1.mono ?_;rintro e w' ⟨G,h2⟩;refine⟨G,?_⟩;rw[ba,ba,<-vW] at h2;exact Onto.trans K8 U (Onto.mono J (by omega) h2)
   clear HP af ak aL aG Y2 HX HF vR DJ MM;generalize ((1080+8*((dv n own).getD k 0).toNat:Nat):Int)=bk at *;generalize (dv n own).getD k 0=x at *;generalize (aO (gI n.E k)).toArray=RW at *;go_wp2_with fail;refine fU (l:=[_,_,_,_,_,_,_,_,_]) (o:=_) (S:=λy=>ay [] wr y) (by kernel_rfl) rfl (by kernel_rfl) (λd _ _ _ _ h=>by cases d<;>exact h) ((ay.refl _ _).drew) (by kernel_rfl) (by kernel_rfl) ?_;repeat (first
    |(refine aH.cons (.int .i64 x) (aX.load rfl 3 (.tmp 51) rfl _ rfl λy z=>bV.out y z) ?_;simp only[Act.put,ag,ah,ai])
    |(refine aH.cons v (aX.load rfl 32 (.tmp 54) rfl _ rfl λy z=>bW.out y z) ?_;simp only[Act.put,ag,ah,ai])
    |(refine aH.cons (.int .i64 bk) (aX.call rfl 149 #[.int .i64 x] ?G ?h) ?_;(case G=>(intro wz;go_simp));(case h=>exact λy z=>(AO.out y).mono λe w' G=>⟨G.1,G.2▸z⟩);simp only[Act.put,ag,ah,ai])
    |(refine aH.cons (.agg RW) (aX.call rfl 196 #[v,.int .i64 (k:Int)] ?G ?h) ?_;(case G=>(intro wz;go_simp));(case h=>exact λy z=>(Ao.out y z).mono λe w' G=>⟨G.1,z.trans' G.2⟩);simp only[Act.put,ag,ah,ai])
    |(refine aH.cons ?_ (aX.val rfl ?h) ?_;(case h=>(intro y z;clear z;go_simp;rfl));simp only[Act.put,ag,ah,ai]))
   refine aH.done λy z=> ?_
   have oF:=ar z;clear z;go_wp2_with fail;refine(F4.out _ oF.out).mono ?_;rintro e w' ⟨rfl,uK⟩;go_wp2_with fail;go_roundg gg;case measure=>omega
   case rel=>exact⟨k+1,by omega,by go_num,uK.out⟩
def tP (i:Int) (n:bN):Prop:=(0<=i/\i<32)/\n.F=2/\bR n
instance (i:Int) (n:bN):Decidable (tP i n):=by unfold tP;infer_instance
theorem Sf (i:Int)(n:bN)(v:Value)(g:Nat)(hB:n.B.length=13)(hE:br w v g n.E)(hN:∀k,k<n.E.length->(dZ n.E k).size<=9223372036854775807)(V:¬tP i n):
  Calls prog 174 #[p,.int .i64 i,.agg (aU n v)] w λe w'=>e= .returned (.int .i64 1)/\ay [] w w':=by
 have vt:Hid (∀W,ay [] w W->Calls prog 96 #[.agg (aU n v)] W λe w'=>e= .returned (.bool (decide (bR n)))/\ay [] W w'):=λW hk=>lO n v g hB W (hE.keep hk (by simp)) hN
 have G:=jL v hB;have z:=bf.new w (aU n v) 111;have HL:=ar (cC z hB);have U:=ar (ju i);generalize aU n v=Z at *;have c0:(w.alloc (.cells Z 111)).cell? ⟨w.heap.size,0,none⟩=some (.int .i64 n.F):=by rw[z.cell];exact G.f0
 have HK:Hid (ay [] w (w.alloc (.cells Z 111))):=(ay.refl [] w).alloc _;have jc:=ar V;clear z G hE hN hB V;by_cases hi:i<0\/32<=i
 ·have y:fA i= -1:=by unfold fA;rw[aB hi]
  rw[y] at U;clear y;go_enter func174,ntmps174;go_wp2_with fail;refine(U.out _).mono ?_;rintro e w' ⟨rfl,rfl⟩;go_wp2_with fail;go_ret;exact⟨rfl,HK.out⟩
 ·have y:fA i=((824+8*i.toNat:Nat):Int):=by unfold fA;rw[aA hi];omega
  rw[y] at U;have aa:(0:Int)<=((824+8*i.toNat:Nat):Int):=by omega
  generalize ((824+8*i.toNat:Nat):Int)=q at *;clear y;by_cases hF:n.F=2
  ·have HQ:Hid (decide (bR n)=false):=aM λh=>jc.out ⟨by omega,hF,h⟩
   rw[hF] at c0;rw[HQ.out] at vt;go_enter func174,ntmps174;go_wp2_with fail;refine(U.out _).mono ?_;rintro e w' ⟨rfl,rfl⟩;go_wp2_with((with_reducible show wpList _ _ _ (⟨_,.load 111 (.tmp 5),_,_,_,_⟩::_) _ _);refine dC (by simp[Region.wanted,yielded,aa]) 111 (.tmp 5) rfl _ rfl _ HL.out ?_);refine(vt.out _ HK.out).mono ?_;rintro e w1 ⟨rfl,J⟩;have jl:=ar (HK.out.trans' J);clear J;go_wp2_with fail;go_ret;exact⟨rfl,jl.out⟩
  ·have ac:(n.F != 2)=true:=bne_iff_ne.2 hF
   generalize n.F=f at *;go_enter func174,ntmps174;go_wp2_with fail;refine(U.out _).mono ?_;rintro e w' ⟨rfl,rfl⟩;go_wp2_with fail;go_ret;exact⟨rfl,HK.out⟩
theorem K9 (h:eT w b gp B ps)(aa:In64 (az B ps))(i:Int)(n:bN)(v:Value)(g:Nat)(hB:n.B.length=13)(hE:br w v g n.E)(hN:∀k,k<n.E.length->(dZ n.E k).size<=9223372036854775807)
  (z:tP i n) (R9:(bp (az B ps)).length<dS n):
  Calls prog 174 #[.pointer (some ⟨b,0,none⟩),.int .i64 i,.agg (aU n v)] w λe w'=>e= .returned (.int .i64 7)/\ay [] w w':=by
 have vt:Hid (∀y,ay [] w y->Calls prog 96 #[.agg (aU n v)] y λe w'=>e= .returned (.bool true)/\ay [] y w'):=λy J=>by
  have :=lO n v g hB y (hE.keep J (by simp)) hN;rwa[bh z.2.2] at this
 have af:=(iZ z.2.2).1;have xA:Hid (∀y,ay [] w y->Calls prog 199 #[.agg (aU n v)] y λe w'=>e= .returned (.int .i64 ((dS n:Nat):Int))/\ay [] y w'):=λy J=>by
  have :=BQ n v g hB y (hE.keep J (by simp)) (by omega) hN;rwa[aB z.2.2] at this
 have K6:Hid (∀y,ay [] w y->Calls prog 151 #[.pointer (some ⟨b,0,none⟩),.int .i64 ((dS n:Nat):Int)] y λe w'=>e= .returned (.tuple #[.slice none 0 0,.int .i64 7])/\y=w'):=λy J=>
  zM (h.keep J (by simp) (by simp)) aa (dS n) R9
 have V:=jL v hB;have U:=bf.new w (aU n v) 111;have HL:Hid (∀y,ay [] (w.alloc (.cells (aU n v) 111)) y->(loadVar 111 ⟨w.heap.size,0,none⟩).run prog y= .ok (.agg (aU n v)) y):=λy J=>cC (U.keep J (by simp)) hB
 have HI:=ar (ju i);generalize aU n v=Z at *;have c0:(w.alloc (.cells Z 111)).cell? ⟨w.heap.size,0,none⟩=some (.int .i64 2):=by rw[U.cell,<-z.2.1];exact V.f0
 have HK:Hid (ay [] w (w.alloc (.cells Z 111))):=(ay.refl [] w).alloc _;have W:fA i=((824+8*i.toNat:Nat):Int):=by unfold fA;rw[aA (by have :=z.1;omega)];have :=z.1;omega
 rw[W] at HI;have ae:(0:Int)<=((824+8*i.toNat:Nat):Int):=by omega
 generalize ((824+8*i.toNat:Nat):Int)=q at *;clear U V hE hN hB W z h aa R9;have Dw:=ar (HL.out _ (ay.refl [] _));generalize ((dS n:Nat):Int)=nn at *;go_enter func174,ntmps174;go_wp2_with fail;refine(HI.out _).mono ?_;rintro e w' ⟨rfl,rfl⟩;go_wp2_with((with_reducible show wpList _ _ _ (⟨_,.load 111 (.tmp 5),_,_,_,_⟩::_) _ _);refine dC (by simp[Region.wanted,yielded,ae]) 111 (.tmp 5) rfl _ rfl _ Dw.out ?_);refine(vt.out _ HK.out).mono ?_;rintro e w1 ⟨rfl,G⟩;have jl:=ar (HK.out.trans' G);have uI:=ar (HL.out _ G);clear G;go_wp2_with(with_reducible refine gL 111 uI.out ?_);refine(xA.out _ jl.out).mono ?_;rintro e w2 ⟨rfl,ac⟩;have fF:=ar (jl.out.trans' ac);clear ac;go_wp2_with fail;refine(K6.out _ fF.out).mono ?_;rintro e w3 ⟨rfl,rfl⟩;go_wp2_with fail;go_ret;exact⟨rfl,fF.out⟩
def qb (Ls:List (List Int)) (own:List Nat) (k:Nat):List (Int×Int):=(List.range k).flatMap λj=>jz (1080+8*own.getD j 0) (Ls.getD j []) 8
theorem vY (Ls:List (List Int))(own:List Nat)(k:Nat):qb Ls own (k+1)=qb Ls own k++jz (1080+8*own.getD k 0) (Ls.getD k []) 8:=by
 unfold qb;rw[dI,List.flatMap_append];simp
theorem yS (Ls:List (List Int))(own:List Nat)(k:Nat):(qb Ls own k).length=8*k:=by
 induction k with
 |zero=>rfl
 |succ k ih=>rw[vY,aD,ih,np];omega
def kI (X:List Int) (i:Nat) (n:bN) (own:List Nat):List (Int×Int):=dE X own++(qb (fE n own) own own.length++jz (824+8*i) (lJ n own) 8)
theorem Cj (z:bR n):dS n<=32:=by
 rcases z.2.2 with ⟨-,y⟩|⟨-,h⟩
 ·rw[oQ y]
  split<;>omega
 ·rw[qO h]
  have U:=h.1;have G:=jf n.E 0;have W:=jf n.E 1;have V:=jf n.E 2;have J:=jf n.E 3;simp only[eY,dN];omega
theorem VB (h:eT w b gp B ps)(aY:In64 (az B ps))(hT:lC w)(Dn:gp<w.heap.size)(aT:ps.length<=800000)(i:Int)(n:bN)(v:Value)(g:Nat)(hB:n.B.length=13)(hE:br w v g n.E)
  (hN:∀k,k<n.E.length->(dZ n.E k).size<=9223372036854775807) (z:tP i n) (bl:n.E.length≠0->g≠b/\g≠gp) (hn:dS n<=(bp (az B ps)).length):
  Calls prog 174 #[.pointer (some ⟨b,0,none⟩),.int .i64 i,.agg (aU n v)] w λe w'=>e= .returned (.int .i64 0)/\Onto w b gp B (ps++kI (az B ps) i.toNat n ((bp (az B ps)).take (dS n))) w':=by
 have vt:Hid (∀y,ay [] w y->Calls prog 96 #[.agg (aU n v)] y λe w'=>e= .returned (.bool true)/\ay [] y w'):=λy hk=>by
  have :=lO n v g hB y (hE.keep hk (by simp)) hN;rwa[bh z.2.2] at this
 have bL:=iZ z.2.2;have xA:Hid (∀y,ay [] w y->Calls prog 199 #[.agg (aU n v)] y λe w'=>e= .returned (.int .i64 ((dS n:Nat):Int))/\ay [] y w'):=λy hk=>by
  have :=BQ n v g hB y (hE.keep hk (by simp)) (by omega) hN;rwa[aB z.2.2] at this
 have bc:=yu (az B ps);have K6:Hid (∀y,ay [] w y->Calls prog 151 #[.pointer (some ⟨b,0,none⟩),.int .i64 ((dS n:Nat):Int)] y (xy y b gp B ps ((bp (az B ps)).take (dS n)))):=λy hk=>
  EJ (h.keep hk (by simp) (by simp)) aY (hT.keep hk) (bt Dn hk.size) (by omega) (dS n) hn
 have AH:Hid (∀c∈(bp (az B ps)).take (dS n),c≠0/\c<256):=λc hc=>by
  have :=ka.1 (bQ hc);exact⟨this.2.1,this.1⟩
 have V:((bp (az B ps)).take (dS n)).length=dS n:=by rw[aI,cA hn]
 have bU:=Cj z.2.2;have bJ:((bp (az B ps)).take (dS n)).length<=32:=by omega
 have aR:=jL v hB;have af:=bf.new w (aU n v) 111;have bI:=h.raw.lt;have HI:=ar (ju i);have HR:=ar z.2.2;have HB:=ar hB;have oO:Hid (∀y,bf y w.heap.size (aU n v) 111->(loadVar 111 ⟨w.heap.size,0,none⟩).run prog y= .ok (.agg (aU n v)) y):=λy hb=>cC hb hB
 have DF:Hid (kI (az B ps) i.toNat n ((bp (az B ps)).take (dS n))=dE (az B ps) ((bp (az B ps)).take (dS n))++(qb (fE n ((bp (az B ps)).take (dS n))) ((bp (az B ps)).take (dS n)) ((bp (az B ps)).take (dS n)).length++jz (824+8*i.toNat) (lJ n ((bp (az B ps)).take (dS n))) 8)):=rfl;have Dd:Hid ((dE (az B ps) ((bp (az B ps)).take (dS n))).length=9*dS n):=by
  show _=_;rw[o8 _ _ AH.out,V]
 generalize bg:(bp (az B ps)).take (dS n)=own at *;have Vy:Hid (∀y v' J vo,br y v g n.E->Reads y vo J (cM own)->v'=v->Calls prog 201 #[.agg (aU n v'),vo] y (mN y (lJ n own) (fE n own))):=λy v' J vo W ho hv=>by
  subst hv;exact MQ n v' g hB z.2.2 W vo J own ho V λc hc=>(AH.out c hc).2
 have bj:=tO z.2.2 V;have K5:Hid (∀k,k<own.length->((fE n own).getD k []).length=8):=λk hk=>rK (by omega)
 have ak:=xz n own;generalize kI (az B ps) i.toNat n own=bn at *;generalize Sa:dE (az B ps) own=Sb at *;have YV:=ar Sa;clear Sa;have aP:fA i=((824+8*i.toNat:Nat):Int):=by unfold fA;rw[aA (by have :=z.1;omega)];have :=z.1;omega
 rw[aP] at HI;have kg:i.toNat<32:=by have :=z.1;omega
 have c0:(w.alloc (.cells (aU n v) 111)).cell? ⟨w.heap.size,0,none⟩=some (.int .i64 2):=by rw[af.cell,<-z.2.1];exact aR.f0
 generalize bF:lJ n own=RW at *;generalize bC:fE n own=BW at *;have aW:Hid (∀y J vo,br y v g n.E->Reads y vo J (cM own)->Calls prog 201 #[.agg (aU n v),vo] y (mN y RW BW)):=λy J vo W ho=>Vy.out y v J vo W ho rfl
 generalize hZ:aU n v=Z at *;have HK:Hid (ay [] w (w.alloc (.cells Z 111))):=(ay.refl [] w).alloc _;have nW:=ar af;have HE:=ar hE;have HS:=ar h;have Af:=ar aT;have Dw:=ar (oO.out _ af);generalize hq:824+8*i.toNat=q at *;have YW:q+8<=3128:=by omega
 clear hq kg bF bC hZ Vy;have bu:(0:Int)<=(q:Int):=by omega
 have bG:=ar V;clear af aR hE hN hB aP h aY hT bc hn bg aT V z;have bR:=jx;generalize sP:(aO (List.replicate 8 0)).toArray=Z8 at *;have yb:=ar sP;clear sP;go_enter func174,ntmps174;go_wp2_with fail;refine(HI.out _).mono ?_;rintro e w' ⟨rfl,rfl⟩;go_wp2_with((with_reducible show wpList _ _ _ (⟨_,.load 111 (.tmp 5),_,_,_,_⟩::_) _ _);refine dC (by simp[Region.wanted,yielded,bu]) 111 (.tmp 5) rfl _ rfl _ Dw.out ?_);refine(vt.out _ HK.out).mono ?_;rintro e w1 ⟨rfl,aG⟩;have jl:=ar (HK.out.trans' aG);have qD:=ar (nW.out.keep aG (by simp));have uI:=ar (oO.out _ qD.out);clear aG Dw nW HK;go_wp2_with(with_reducible refine gL 111 uI.out ?_);refine(xA.out _ jl.out).mono ?_;rintro e w2 ⟨rfl,G⟩;have fF:=ar (jl.out.trans' G);have oL:=ar (qD.out.keep G (by simp));clear G jl qD uI xA vt;go_wp2_with fail;refine(K6.out _ fF.out).mono ?_;rintro e w3 ⟨vo,J,rfl,aC,bK,bq,mf,YX,bY,aJ,aa⟩;rw[YV.out] at aJ;have bV:=fF.out.size;have bS:=oL.out.lt;have p9:=ar (oL.out.keep aa (by simp only[aQ,aS,bD];omega));have aV:Hid (br w3 v g n.E):=(HE.out.keep fF.out (by simp)).keep aa (λbw=>by have :=bl bw;simp only[aQ,aS,bD];omega);have lV:Hid (ay [b,gp] w w3):=(fF.out.mono (by simp)).trans' aa;have uz:=ar aJ;have Cc:=ar aC;have zO:=ar (oO.out _ p9.out);have b7:=aa.size;obtain⟨ao,co,rfl,II,b8,Vm⟩:=pq aC;clear K6 fF oL HE HS aa aJ aC;go_wp2_with(with_reducible refine gL 111 zO.out ?_);refine(aW.out _ J _ aV.out Cc.out).mono ?_;rintro e w4 ⟨vb,gb,rfl,hb,bZ,ax⟩;obtain⟨w5,aN,MK,kr⟩:=bo (P:= prog) (ty:= 195) (cs:=aO RW) (by rw[aZ,ak];exact il) (bf.new w4 Z8 195) (by rw[<-yb.out];simp[aZ,ak]) (eF _);have bW:=ax.size;have pB:ay [] w4 w5:=((ay.refl [] w4).alloc (.cells Z8 195)).trans kr (by intro x U;rw[au] at U;omega);have OG:ay [] w3 w5:=ax.trans' pB;have Av:=ar aN;have Xl:=ar MK;have aL:Hid (mM w5 vb gb BW):=hb.keep pB (by simp);have zL:=ar (uz.out.keep OG (by simp) (by simp));have pk:Hid (ay [b,gp] w w5):=lV.out.trans' (OG.mono (by simp));have bv:Hid (own.length≠0->gb≠b/\gb≠mf/\gb≠w4.heap.size):=λh0=>by
  obtain⟨a,cap,q1,q2,q3,q4⟩:=hb;have :=(q4 (by omega)).1;omega
 have bX:J<w3.heap.size:=bq;have Ke:Hid (∀k,k<own.length->∀y,ay [b,mf] w5 y->J<w3.heap.size/\∃off,ao=some ⟨J,off,none⟩/\y.cell? ⟨J,off+k,none⟩=some (.int .i64 ((own.getD k 0:Nat):Int))):=λk hk y AU=>by
  obtain⟨h1,off,h2,h3⟩:=Vm.out k hk;refine⟨h1,off,h2,?_⟩;have e1:y.heap[J]? =w5.heap[J]? :=AU.block J (bt h1 OG.size) (by simp only[aQ,aS,bD];omega);have e2:w5.heap[J]? =w3.heap[J]? :=OG.block J h1 (by simp);exact(aK (w:=w3) (w':=y) (a:=⟨J,off+k,none⟩) (e1.trans e2)).trans h3
 have qg:w4.heap.size<w5.heap.size:=MK.lt;have b6:=OG.size;have bM:mf<w3.heap.size:=by
  rcases YX with h|h
  ·omega
  ·omega
 have aM:Hid (Onto w5 b mf B (ps++(Sb++qb BW own 0)) w5):=by
  refine Onto.refl ?_;have :=zL.out;simpa[qb] using this
 clear aN MK kr pB OG ax hb zO uz aV p9 Cc lV aW Vm;generalize bT:w4.heap.size=g9 at *;go_wp2_with(with_reducible refine gS 195 Av.out ?_);go_loopg [44] own.length (λgh s44 y=>∃k:Nat,k+gh=own.length/\s44= .int .i64 (k:Int)/\Hid (Onto w5 b mf B (ps++(Sb++qb BW own k)) y))
 case atStart=>exact⟨0,by omega,rfl,aM.out⟩
 case round=>
  clear aM;obtain⟨k,hk,rfl,HP⟩:=hrel;obtain⟨xe,K8,av,G⟩:=HP.out;have QD:Hid (∀y,ay [] wr y->(loadVar 195 ⟨g9,0,none⟩).run prog y= .ok (.agg (aO RW).toArray) y):=λy AU=>dX ((Xl.out.keep G (by simp only[aQ,aS,bD];omega)).keep AU (by simp)) ak
  have bb:=Dd.out;have bH:=Af.out;have Qz:=G.size;cases gk with
  |zero=>
   obtain rfl:k=own.length:=by omega
   have bB:Hid (∀y,Calls prog 137 #[.int .i64 i] y λe w'=>e= .returned (.int .i64 ((q:Nat):Int))/\y=w'):=λy=>HI.out y
   have F4:Hid (∀y,ay [] wr y->Calls prog 195 #[.pointer (some ⟨b,0,none⟩),.int .i64 ((q:Nat):Int),.agg (aO RW).toArray] y λe w'=>e= .returned (.tuple #[])/\Hid (Onto w b gp B (ps++bn) w')):=λy ae=>by
    have h1:=qF (av.keep ae (by simp) (by simp)) (by simp only[aD,yS,bb];omega) q YW RW ak;refine h1.mono ?_;rintro e w' ⟨W,h2⟩;refine⟨W,?_⟩;rw[ba,ba,<-DF.out] at h2;have h3:=Onto.trans K8 G (Onto.mono ae (by omega) h2);refine Onto.trans ?_ pk.out h3;rcases YX with h|h
    ·exact .inl h
    ·exact .inr ⟨by omega,by omega⟩
   clear HP av Ke DF;generalize (aO RW).toArray=ZW at *;generalize ((q:Nat):Int)=qi at *;go_wp2_with fail;refine fU (l:=[_,_,_,_]) (o:=_) (S:=λy=>ay [] wr y) (by kernel_rfl) rfl (by kernel_rfl) (λd _ _ _ _ h=>by cases d<;>exact h) ((ay.refl _ _).drew) (by kernel_rfl) (by kernel_rfl) ?_;repeat (first
    |(refine aH.cons (.agg ZW) (aX.load rfl 195 (.tmp 9) rfl _ rfl λy U=>QD.out y U) ?_;simp only[Act.put,ag,ah,ai])
    |(refine aH.cons (.int .i64 qi) (aX.call rfl 137 #[.int .i64 i] ?W ?h) ?_;(case W=>(intro wz;go_simp));(case h=>exact λy U=>(bB.out y).mono λe w' W=>⟨W.1,W.2▸U⟩);simp only[Act.put,ag,ah,ai])
    |(refine aH.cons ?_ (aX.val rfl ?h) ?_;(case h=>(intro y U;clear U;go_simp;rfl));simp only[Act.put,ag,ah,ai]))
   refine aH.done λy U=> ?_
   have oF:=ar U;clear U;go_wp2_with fail;refine(F4.out _ oF.out).mono ?_;rintro e w' ⟨rfl,uK⟩;go_wp2_with fail;go_ret;exact⟨rfl,uK.out⟩
  |succ gg=>
   have ac:k<own.length:=by omega
   have bP:(k:Int)<(own.length:Int):=by omega
   have eo:(0:Int)<=(k:Int):=by omega
   obtain⟨bO,off,rfl,c1⟩:=Ke.out k ac wr G;obtain⟨bE,cap,rfl,Y4,oa⟩:=zN aL.out (k:=k) (by omega) (K5.out k ac);have bz:=bv.out (by omega);have nC:Hid (∀y,ay [] wr y->(loadVar 195 ⟨gb,bE+k*8,none⟩).run prog y= .ok (.agg (aO (BW.getD k [])).toArray) y):=λy AU=>oa y ((AU.block gb (bt Y4 G.size) (by simp)).trans (G.block gb Y4 (by simp only[aQ,aS,bD];omega)))
   have R3:own.getD k 0<256:=(AH.out _ (by rw[aj,aF ac];exact bA ac)).2;have AO:Hid (∀y,Calls prog 149 #[.int .i64 ((own.getD k 0:Nat):Int)] y λe w'=>e= .returned (.int .i64 ((1080+8*own.getD k 0:Nat):Int))/\y=w'):=λy=>by
    have :=jI ((own.getD k 0:Nat):Int) y;rwa[jH,aA (by omega),show 1080+((own.getD k 0:Nat):Int)*8=((1080+8*own.getD k 0:Nat):Int) by omega] at this
   have F4:Hid (∀y,ay [] wr y->Calls prog 195 #[.pointer (some ⟨b,0,none⟩),.int .i64 ((1080+8*own.getD k 0:Nat):Int),.agg (aO (BW.getD k [])).toArray] y λe w'=>e= .returned (.tuple #[])/\Hid (Onto w5 b mf B (ps++(Sb++qb BW own (k+1))) w')):=λy ae=>by
    have h1:=qF (av.keep ae (by simp) (by simp)) (by simp only[aD,yS,bb];omega) (1080+8*own.getD k 0) (by omega) (BW.getD k []) (K5.out k ac);refine h1.mono ?_;rintro e w' ⟨W,h2⟩;refine⟨W,?_⟩;rw[ba,ba,<-vY] at h2;exact Onto.trans K8 G (Onto.mono ae (by omega) h2)
   rw[bj] at *;clear HP av QD R3 oa Y4 bz aL Ke DF;generalize ((1080+8*own.getD k 0:Nat):Int)=bk at *;generalize ((own.getD k 0:Nat):Int)=x at *;generalize (aO (BW.getD k [])).toArray=RK at *;go_wp2_with fail;refine fU (l:=[_,_,_,_,_,_,_]) (o:=_) (S:=λy=>ay [] wr y) (by kernel_rfl) rfl (by kernel_rfl) (λd _ _ _ _ h=>by cases d<;>exact h) ((ay.refl _ _).drew) (by kernel_rfl) (by kernel_rfl) ?_;repeat (first
    |(refine aH.cons (.agg RK) (aX.load rfl 195 (.tmp 54) rfl _ rfl λy U=>nC.out y U) ?_;simp only[Act.put,ag,ah,ai])
    |(refine aH.cons (.int .i64 bk) (aX.call rfl 149 #[.int .i64 x] ?W ?h) ?_;(case W=>(intro wz;go_simp));(case h=>exact λy U=>(AO.out y).mono λe w' W=>⟨W.1,W.2▸U⟩);simp only[Act.put,ag,ah,ai])
    |(refine aH.cons ?_ (aX.val rfl ?h) ?_;(case h=>(intro y U;clear U;go_simp;rfl));simp only[Act.put,ag,ah,ai]))
   refine aH.done λy U=> ?_
   have oF:=ar U;clear U;go_wp2_with fail;refine(F4.out _ oF.out).mono ?_;rintro e w' ⟨rfl,uK⟩;go_wp2_with fail;go_roundg gg;case measure=>omega
   case rel=>exact⟨k+1,by omega,by go_num,uK.out⟩
end Go.Proofs.YtepbpdipenedhaaGreatDoor

/- Lemmas. -/
import Derived.Test.YtepbpdipenedhaaGreatDoorR08
import Derived.Deep.DeepCutAuto
set_option maxHeartbeats 8000000
set_option maxRecDepth 100000
namespace Go.Proofs.YtepbpdipenedhaaGreatDoor
open Go.Proofs.Tryz
open Go.RowKit
variable{n:bP}{w:World}{own:List Nat}{p v:Value}{b g gp:Nat}{B:List Int}{ps:List (Int×Int)}
def nb (n:bP) (own:List Nat):List Int:=if n.K=2 then Fp n own else ml n own
def gV (n:bP) (own:List Nat):List (List Int):=if n.K=2 then xm n.E own 4 else jW n
theorem zB (n:bP):∀k,mZ n k=(if 6<(fu n.B).length then 1 else 0)+fN n.E k
 |0=>by rw[mZ,fN];rfl
 |k+1=>by rw[mZ,fN,zB n k,dN];omega
theorem Tg:fu (List.replicate 13 0)=[]:=by kernel_rfl
theorem ua (h:og n):eP n=fN n.E 4:=by
 rw[eP,zB,h.2.2.1,Tg];simp
theorem rp (h:qg n):eP n=if 6<(fu n.B).length then 1 else 0:=by
 have z:n.E=[]:=bg h.2.1;rw[eP,zB,z];rfl
theorem Me (n:bP)(own:List Nat):(ml n own).length=8:=by
 have h:=lN n.B 13;have z:(fu n.B).length<=13:=h;unfold ml;split
 ·simp;omega
 ·simp;omega
theorem AJ (n:bP)(own:List Nat):(nb n own).length=8:=by
 unfold nb;split
 ·rfl
 ·exact Me n own
theorem Ti (G:bZ n):vZ n.E:=by
 rcases G.2.2 with ⟨-,J⟩|⟨-,z⟩
 ·have :=J.2.1
  exact⟨by omega,λk h=>by omega,λk h=>by omega⟩
 ·have U:=z.1
  refine⟨by omega,λk h=> ?_,λk h=> ?_⟩
  ·have :=(nN (z.2.2.2 k h).1).2
   rw[lM] at this;omega
  ·have :=(z.2.2.2 k h).2.1
   omega
theorem Rb (n:bP)(v:Value)(g:Nat)(hB:n.B.length=13)(hR:bZ n)(hE:bC w v g n.E)(vo:Value)(go:Nat)(own:List Nat)(hO:Reads w vo go (dE own))(ho:own.length=eP n)(vv:∀c∈own,c<256):
  Calls prog 201 #[.agg (aR n v),vo] w (oN w (nb n own) (gV n own)):=by
 have ht:=sH hR;obtain⟨V,G⟩:∃V,V=(w.alloc (.cells (aR n v) 111)).alloc (.cells (aW (List.replicate 8 0)).toArray 195):=⟨_,rfl⟩;have W:bh V w.heap.size (aR n v) 111 :=by
  rw[G];exact(bh.new w _ _).alloc _
 have mq:bh V (w.heap.size+1) (aW (List.replicate 8 0)).toArray 195 :=by
  have :=bh.new (w.alloc (.cells (aR n v) 111)) (aW (List.replicate 8 0)).toArray 195;have e:(w.alloc (.cells (aR n v) 111)).heap.size=w.heap.size+1:=by simp
  rw[e,<-G] at this;exact this
 have dt:az [] w V:=by
  rw[G];exact((az.refl [] w).alloc _).alloc _
 have vY:=au (ct W hB);have cK:V.cell? ⟨w.heap.size,1,none⟩=some (.int .i64 n.K):=by rw[W.cell];exact(iX v hB).f1
 have ai:=kC;have qC:=au G;have fW:=au dt;have KW:=au mq;have aa:=AJ n own;have lU:Hid (∀w1 vb gb,az [] V w1->oM w1 vb gb (gV n own)->w.heap.size<=gb->gb≠w.heap.size+1->∃w2,(storeVar 195 ⟨w.heap.size+1,0,none⟩ (.agg (aW (nb n own)).toArray)).run prog w1= .ok () w2/\(loadVar 195 ⟨w.heap.size+1,0,none⟩).run prog w2= .ok (.agg (aW (nb n own)).toArray) w2/\oN w (nb n own) (gV n own) (.returned (.tuple #[.agg (aW (nb n own)).toArray,vb])) w2):=λw1 vb gb hk hb hg ae=>by
  obtain⟨w2,hS,af,ac⟩:=bB (P:= prog) (ty:= 195) (cs:=aW (nb n own)) (by rw[bp,aa];exact ja) (mq.keep hk (by simp)) (by simp[bp,aa]) (fh _);exact⟨w2,hS,eY af aa,vb,gb,rfl,hb.keep ac (by intro _;simp;exact ae),hg,(dt.trans' hk).trans ac (by intro x hx;rw[ay] at hx;omega)⟩
 have ah:w.heap.size+1<V.heap.size:=mq.lt;by_cases hK:n.K=2
 ·have hd:og n:=(hR.2.2.resolve_left (λh=>by have :=h.1;omega)).2
  have J:nb n own=Fp n own:=aC hK;have z:gV n own=xm n.E own 4:=aC hK;have HD:=au (O7 n v g hB ht (hE.keep dt (by simp)) (Ti hR) (by have :=hd.1;omega) vo go own (hO.keep dt (by simp)) (by rw[ho,ua hd]) vv);rw[<-J,<-z] at HD;rw[hK] at cK;rw[G] at cK;clear W mq dt G hE hO ho hR ht hd J z hK;generalize nb n own=RW at *;generalize gV n own=BW at *;generalize aR n v=Z at *;generalize wK:(aW (List.replicate 8 0)).toArray=Z8 at *;go_enter func201,ntmps201;go_wp2_with((with_reducible show wpList _ _ _ (⟨_,.load 111 (.tmp 2),_,_,_,_⟩::_) _ _);rw[<-qC.out];refine gH rfl 111 (.tmp 2) rfl _ rfl _ vY.out ?_);refine HD.out.mono ?_;rintro e w1 ⟨vb,gb,rfl,hb,hg,U⟩;obtain⟨w2,hS,hL,hM⟩:=lU.out w1 vb gb U hb (by have :=fW.out.size;omega) (by omega);have HS:=au hS;have HL:=au hL;have HM:=au hM;clear hS hL hM hb hg U;go_wp2_with(with_reducible refine gS 195 HS.out ?_);exact aL (dH results201 rfl HL.out rfl) rfl HM.out
 ·have hf:qg n:=(hR.2.2.resolve_right (λh=>hK h.1)).2
  have J:nb n own=ml n own:=aB hK;have z:gV n own=jW n:=aB hK;have HD:Hid (Calls prog 218 #[.agg (aR n v),vo] V (oN V (ml n own) (jW n))):=by
   have hn:=rp hf;by_cases h6:(fu n.B).length<=6
   ·exact Fk n v hB ht vo own h6
   ·rw[aC (by omega)] at hn
    refine J0 n v hB ht vo go own (hO.keep dt (by simp)) ?_ (by omega) (by omega);exact vv _ (by rw[aj,aG (by omega:0<own.length)];exact bA _)
  rw[<-J,<-z] at HD;rw[G] at cK;have ag:(n.K==2)=false:=by simpa using hK
  clear W mq dt G hE hO ho hR ht hf J z;generalize nb n own=RW at *;generalize gV n own=BW at *;generalize n.K=K at *;generalize aR n v=Z at *;generalize wK:(aW (List.replicate 8 0)).toArray=Z8 at *;go_enter func201,ntmps201;go_wp2_with((with_reducible show wpList _ _ _ (⟨_,.load 111 (.tmp 2),_,_,_,_⟩::_) _ _);rw[<-qC.out];refine gH rfl 111 (.tmp 2) rfl _ rfl _ vY.out ?_);refine HD.out.mono ?_;rintro e w1 ⟨vb,gb,rfl,hb,hg,U⟩;obtain⟨w2,hS,hL,hM⟩:=lU.out w1 vb gb U hb (by have :=fW.out.size;omega) (by omega);have HS:=au hS;have HL:=au hL;have HM:=au hM;clear hS hL hM hb hg U;go_wp2_with(with_reducible refine gS 195 HS.out ?_);exact aL (dH results201 rfl HL.out rfl) rfl HM.out
def oQ (X R:List Int) (n:bP) (own:List Nat):Prop:=
 (∀k,k<own.length->(gV n own).getD k []=eu X (1080+8*own.getD k 0))/\nb n own=R
theorem xu (J:bZ n)(z:own.length=eP n):(gV n own).length=own.length:=by
 unfold gV;rcases J.2.2 with ⟨G,U⟩|⟨G,V⟩
 ·rw[aB (by omega),z,rp U,jW]
  by_cases h:(fu n.B).length<=6
  ·rw[aC h,aB (by omega)];rfl
  ·rw[aB h,aC (by omega)];rfl
 ·rw[aC G,nY,z,ua V]
theorem vA{k:Nat}(z:k<(gV n own).length):((gV n own).getD k []).length=8:=by
 unfold gV at *;by_cases G:n.K=2
 ·rw[aC G] at z ⊢
  rw[nY] at z;obtain⟨b,j,V,U,rfl⟩:=tS n.E z;rw[rh n.E own U V];exact WJ (by rw[kx,mO];omega) _
 ·rw[aB G] at z ⊢
  unfold jW at *;have J:(fu n.B).length<=13:=lN n.B 13;by_cases h:(fu n.B).length<=6
  ·rw[aC h] at z;simp at z
  ·rw[aB h] at z ⊢
   obtain rfl:k=0:=by simpa using z
   simp;omega
theorem C8{Ls:List (List Int)}(h:oM w v g Ls){k:Nat}(U:k<Ls.length)(J:(Ls.getD k []).length=8):
  ∃off cap,v= .slice (some ⟨g,off,none⟩) Ls.length cap/\g<w.heap.size/\∀z,z.heap[g]? =w.heap[g]? ->(loadVar 195 ⟨g,off+k*8,none⟩).run prog z= .ok (.agg (aW (Ls.getD k [])).toArray) z:=by
 obtain⟨a,cap,V,h2,h3,h4⟩:=h;obtain⟨W,off,rfl,hc⟩:=h4 (by omega);refine⟨off,cap,V,W,λz hx=>bW g (off+k*8) (aW (Ls.getD k [])) underlying195 rfl (by rw[bp,J];exact ja) λj G=> ?_⟩;rw[bp,J] at G;rw[aO (w:=w) (a:=⟨g,off+k*8+j,none⟩) hx,hc k U j G,dA (by rw[J];exact G)]
theorem Tj (Pb:eO w b gp B ps)(n:bP)(v:Value)(g:Nat)(hB:n.B.length=13)(hR:bZ n)(hE:bC w v g n.E)(vo:Value)(go:Nat)(own:List Nat)(hO:Reads w vo go (dE own))(ho:own.length=eP n)(vv:∀c∈own,c<256){R:List Int}(aP:R.length=8):
  Calls prog 200 #[.pointer (some ⟨b,0,none⟩),.agg (aW R).toArray,.agg (aR n v),vo] w λe w'=>∃t:Bool,e= .returned (.bool t)/\(t=true↔oQ (aA B ps) R n own)/\az [] w w':=by
 obtain⟨ao,co,rfl,L9,bb,VA⟩:=rK hO;obtain⟨W0,U⟩:∃W0,W0=(w.alloc (.cells (aW R).toArray 195)).alloc (.cells (aR n v) 111):=⟨_,rfl⟩;have rI:bh W0 w.heap.size (aW R).toArray 195 :=by
  rw[U];exact(bh.new w _ _).alloc _
 have yP:bh W0 (w.heap.size+1) (aR n v) 111 :=by
  have :=bh.new (w.alloc (.cells (aW R).toArray 195)) (aR n v) 111;have e:(w.alloc (.cells (aW R).toArray 195)).heap.size=w.heap.size+1:=by simp
  rw[e] at this;rw[U];exact this
 have dt:az [] w W0:=by
  rw[U];exact((az.refl _ _).alloc _).alloc _
 have vY:=au (ct yP hB);have aS:=au (Rb n v g hB hR (hE.keep dt (by simp)) (.slice ao own.length co) go own (hO.keep dt (by simp)) ho vv);have aM:=xu hR ho;have Pd:Hid (∀k,k<own.length->((gV n own).getD k []).length=8):=λk hk=>vA (by omega)
 have aa:=AJ n own;have aT:=kC;have aV:own.length<=4001:=by
  rw[ho]
  have :=BQ n (by rcases hR.2.2 with ⟨-,hf⟩|⟨-,hd⟩;·have :=hf.2.1;omega
                  ·have :=hd.1;omega) 4
  unfold eP;have h2:=hR.2.2;rcases h2 with ⟨-,hf⟩|⟨-,hd⟩
  ·have :=rp hf
   unfold eP at this;rw[this];split<;>omega
  ·have h3:=ua hd
   have N8:=hd.1;unfold eP at h3;rw[h3];have e0:=j4 n.E 0;have e1:=j4 n.E 1;have e2:=j4 n.E 2;have e3:=j4 n.E 3;simp only[fN,dN];omega
 have af:Hid (∀t,(t=true↔oQ (aA B ps) R n own)↔(t=true↔((∀k,k<own.length->(gV n own).getD k []=eu (aA B ps) (1080+8*own.getD k 0))/\nb n own=R))):=λt=>Iff.rfl
 have wC:=au (Pb.keep dt (by simp) (by simp));have qC:=au U;have fW:=au dt;have aH:=au rI;have WQ:Hid (∀k,k<own.length->own.getD k 0<256):=λk hk=>vv _ (by rw[aj,aG hk];exact bA hk)
 have BS:=au aP;have ba:W0.heap.size=w.heap.size+1+1:=by rw[U];simp
 clear rI yP dt U hE hO hR ho vv hB Pb;generalize aQ:nb n own=RW at *;generalize aJ:gV n own=BW at *;generalize aR n v=Z at *;generalize IE:(aW R).toArray=ZR at *;have ar:=au IE;generalize wK:(aW (List.replicate 8 0)).toArray=Z8 at *;have xR:=au wK;clear aQ aJ IE wK;generalize hn:own.length=nn at *;have HN:=au hn;clear hn;go_enter func200,ntmps200;go_wp2_with((with_reducible show wpList _ _ _ (⟨_,.load 111 (.tmp 6),_,_,_,_⟩::_) _ _);rw[<-qC.out];refine gH rfl 111 (.tmp 6) rfl _ rfl _ vY.out ?_);refine aS.out.mono ?_;rintro e w1 ⟨vb,gb,rfl,hb,hg,ac⟩;obtain⟨w2,av,DD,ae⟩:=bB (P:= prog) (ty:= 195) (cs:=aW RW) (by rw[bp,aa];exact ja) (bh.new w1 Z8 195) (by rw[<-xR.out];simp[bp,aa]) (fh _);have aI:=ac.size;have DF:=au av;have fL:Hid (az [] W0 w2):=(ac.alloc (.cells Z8 195)).trans ae (by intro x G;rw[ay] at G;omega);have WI:=au DD;have aF:Hid (oM w2 vb gb BW):=by
  obtain⟨a,cap,q1,q2,q3,q4⟩:=hb;refine oM.keep (l:=[w1.heap.size]) ⟨a,cap,q1,q2,q3,q4⟩ (((az.refl [w1.heap.size] w1).alloc (.cells Z8 195)).trans' ae) λh0 hm=> ?_
  have :=(q4 h0).1;rw[ay] at hm;omega
 clear av DD ae ac hb hg aI;generalize aZ:w1.heap.size=g9 at *;go_wp2_with(with_reducible refine gS 195 DF.out ?_);go_loopg [21] nn (λgh s21 z=>∃k:Nat,k+gh=nn/\s21= .int .i64 (k:Int)/\Hid ((∀j,j<k->BW.getD j []=eu (aA B ps) (1080+8*own.getD j 0))/\az [] w2 z))
 case atStart=>exact⟨0,by omega,rfl,λj hj=>by omega,az.refl _ _⟩
 case round=>
  obtain⟨k,hk,rfl,HP⟩:=hrel;obtain⟨J,W⟩:=HP.out;cases gk with
  |zero=>
   obtain rfl:k=nn:=by omega
   have SU:=au (eY (WI.out.keep W (by simp)) aa);have IH:Hid ((loadVar 195 ⟨w.heap.size,0,none⟩).run prog wr= .ok (.agg ZR) wr):=by
    have :=(aH.out.keep fL.out (by simp)).keep W (by simp);rw[<-ar.out] at this ⊢;exact eY this BS.out
   have GU:=λz=>Iq (a:=RW) (b:=R) aa BS.out z
   have aN:=tH;rw[ar.out] at GU;obtain⟨t,ht⟩:∃t,decide (RW=R)=t:=⟨_,rfl⟩;rw[ht] at GU;have HF:Hid (∃t':Bool,Ending.returned (.bool t)= .returned (.bool t')/\(t'=true↔oQ (aA B ps) R n own)/\az [] w wr):=by
    refine⟨t,rfl,(af.out t).2 ?_,fW.out.trans' (fL.out.trans' W)⟩;rw[<-ht,decide_eq_true_iff];exact⟨λh=>⟨J,h⟩,λh=>h.2⟩
   have aY:=GU;clear J W HP ht GU;generalize (aW RW).toArray=ZW at *;go_wp2_with(first|(with_reducible refine gL 195 SU.out ?_)|(with_reducible refine gL 195 IH.out ?_));go_ret;exact HF.out
  |succ gg=>
   have V:k<nn:=by omega
   have aX:(k:Int)<(nn:Int):=by omega
   have dt:(0:Int)<=(k:Int):=by omega
   obtain⟨aD,O6,rfl,ax⟩:=VA.out k V;have c0:=(aO (w:=w) (w':=wr) (a:=⟨go,O6+k,none⟩) ((fW.out.trans' (fL.out.trans' W)).block go aD (by simp))).trans ax;have G:=WQ.out k V;obtain⟨off,cap,rfl,aC,qF⟩:=C8 aF.out (k:=k) (by omega) (Pd.out k V);rw[aM] at *;have p9:Hid (∀z,az [] wr z->(loadVar 195 ⟨gb,off+k*8,none⟩).run prog z= .ok (.agg (aW (BW.getD k [])).toArray) z):=λz C9=>qF z ((W.trans' C9).block gb aC (by simp))
   obtain⟨x,ak⟩:∃x,x=own.getD k 0:=⟨_,rfl⟩;rw[<-ak] at G c0;have uL:=au (λz=>jU (x:Int) z);have zx:Hid (iL (x:Int)=((1080+8*x:Nat):Int)):=by
    show _=_;rw[iL,aB (by omega)];omega
   rw[zx.out] at uL;have ma:Hid (∀z,az [] wr z->Calls prog 141 #[.pointer (some ⟨b,0,none⟩),.int .i64 ((1080+8*x:Nat):Int)] z λe w'=>e= .returned (.agg (aW (eu (aA B ps) (1080+8*x))).toArray)/\az [] z w'):=λz C9=>
    oL (((wC.out.keep fL.out (by simp) (by simp)).keep W (by simp) (by simp)).keep C9 (by simp) (by simp)) (1080+8*x) (by omega)
   have GU:=λz=>Iq (a:=BW.getD k []) (b:=eu (aA B ps) (1080+8*x)) (Pd.out k V) (iD _ _) z
   have aN:=tH;obtain⟨t,ht⟩:∃t,decide (BW.getD k []=eu (aA B ps) (1080+8*x))=t:=⟨_,rfl⟩;rw[ht] at GU;have DA:=au J;have iZ:=au W;have HT:Hid (t=true↔BW.getD k []=eu (aA B ps) (1080+8*own.getD k 0)):=by
    show _↔_;rw[<-ht,decide_eq_true_iff,ak]
   have aU:=GU;clear J W HP ax aD aC qF aF ht G ak zx GU;generalize aL:((1080+8*x:Nat):Int)=px at *;generalize Mc:(x:Int)=xi at *;generalize (aW (BW.getD k [])).toArray=ZQ at *;generalize (aW (eu (aA B ps) (1080+8*x))).toArray=ZP at *;clear aL Mc;cases t;all_goals
    go_wp2_with fail;refine dX (S:=λz=>az [] wr z) (by kernel_rfl) (by kernel_rfl) (λd _ _ _ _ h=>by cases d<;>exact h) ((az.refl _ _).drew) (by kernel_rfl) ?_;repeat (first
     |(refine aK.cons (.agg ZQ) (bc.load rfl 195 (.tmp 28) rfl _ rfl λz G=>p9.out z G) ?_;simp only[Act.put,ag,ah,ai])
     |(refine aK.cons (.int .i64 px) (bc.call rfl 149 #[.int .i64 xi] ?he ?h) ?_;(case he=>(intro wz;go_simp));(case h=>exact λz G=>(uL.out z).mono λe w' he=>⟨he.1,he.2▸G⟩);simp only[Act.put,ag,ah,ai])
     |(refine aK.cons (.agg ZP) (bc.call rfl 141 #[.pointer (some ⟨b,0,none⟩),.int .i64 px] ?he ?h) ?_;(case he=>(intro wz;go_simp));(case h=>exact λz G=>(ma.out z G).mono λe w' he=>⟨he.1,G.trans' he.2⟩);simp only[Act.put,ag,ah,ai])
     |(refine aK.cons ?_ (bc.val rfl ?h) ?_;(case h=>(intro z G;clear G;go_simp;rfl));simp only[Act.put,ag,ah,ai]))
    refine aK.done λwz G=> ?_
    have wO:=au G;clear G
   ·have HF:Hid (∃t':Bool,Ending.returned (.bool false)= .returned (.bool t')/\(t'=true↔oQ (aA B ps) R n own)/\az [] w wz):=by
     refine⟨false,rfl,(af.out false).2 ⟨λh=>(by cases h),λh=> ?_⟩,fW.out.trans' (fL.out.trans' (iZ.out.trans' wO.out))⟩;have :=HT.out.2 (h.1 k V);cases this
    go_wp2_with fail;go_ret;exact HF.out
   ·have HN:Hid ((∀j,j<k+1->BW.getD j []=eu (aA B ps) (1080+8*own.getD j 0))/\az [] w2 wz):=by
     refine⟨λj hj=> ?_,iZ.out.trans' wO.out⟩;by_cases e:j=k
     ·subst e;exact HT.out.1 (by trivial)
     ·exact DA.out j (by omega)
    clear DA HT af;go_wp2_with fail;go_roundg gg;case measure=>omega
    case rel=>exact⟨k+1,by omega,by go_num,HN.out⟩
theorem Ca (n:bP)(own:List Nat):(nb n own).getD 0 0=oh n/\(nb n own).getD 1 0=n.S:=by
 unfold nb;split
 ·exact⟨rfl,rfl⟩
 ·unfold ml
  split<;>exact⟨rfl,rfl⟩
theorem Mf (l:List (ByteArray×Int))(j y:Nat)(W:y<7):(eK (xU l j)).getD y 0=if 3*j+y/2<l.length/\y<6 then (if y%2=0 then ((kv (bl (eU l (3*j+y/2))):Nat):Int) else jl l (3*j+y/2)) else 0:=by
 by_cases h:3*j+y/2<l.length/\y<6
 ·rw[aC h]
  have G:y/2<(xU l j).length:=by rw[mO];omega
  obtain⟨-,V,U⟩:=D9 l j (y/2) G;have J:=uZ (xU l j) (y/2) G;rcases (show y%2=0\/y%2=1 by omega) with z|z
  ·rw[aC z,<-V,<-J.1,show y/2*2=y by omega]
  ·rw[aB (by omega),<-U,<-J.2,show y/2*2+1=y by omega]
 ·rw[aB h,aj,aT (by rw[kx,mO];omega)]
  rfl
theorem WR (h:n.K=2){b:Nat}(z:b<4):(nb n own).getD (2+b) 0=hdD n.E own b/\(nb n own).getD 6 0=0/\(nb n own).getD 7 0=0:=by
 unfold nb;rw[aC h];refine⟨?_,rfl,rfl⟩;rcases (show b=0\/b=1\/b=2\/b=3 by omega) with rfl|rfl|rfl|rfl<;>rfl
def G5 (i:Int) (n:bP):Prop:=(0<=i/\i<32)/\n.F=1/\bZ n
instance (i:Int) (n:bP):Decidable (G5 i n):=by unfold G5;infer_instance
theorem aaM (i:Int)(n:bP)(v:Value)(g:Nat)(hB:n.B.length=13)(hE:bC w v g n.E)(hN:∀k,k<n.E.length->(eU n.E k).size<=9223372036854775807)(W:¬G5 i n):
  Calls prog 172 #[p,.int .i64 i,.agg (aR n v)] w λe w'=>e= .returned (.int .i64 1)/\az [] w w':=by
 have yR:Hid (∀U,az [] w U->Calls prog 96 #[.agg (aR n v)] U λe w'=>e= .returned (.bool (decide (bZ n)))/\az [] U w'):=λU hk=>nt n v g hB U (hE.keep hk (by simp)) hN
 have J:=iX v hB;have G:=bh.new w (aR n v) 111;have HL:=au (ct G hB);have HI:=au (jY i);generalize aR n v=Z at *;have c0:(w.alloc (.cells Z 111)).cell? ⟨w.heap.size,0,none⟩=some (.int .i64 n.F):=by rw[G.cell];exact J.f0
 have HK:Hid (az [] w (w.alloc (.cells Z 111))):=(az.refl [] w).alloc _;have jC:=au W;clear G J hE hN hB W;by_cases hi:i<0\/32<=i
 ·have z:gF i= -1:=by unfold gF;rw[aC hi]
  rw[z] at HI;clear z;go_enter func172,ntmps172;go_wp2_with fail;refine(HI.out _).mono ?_;rintro e w' ⟨rfl,rfl⟩;go_wp2_with fail;go_ret;exact⟨rfl,HK.out⟩
 ·have z:gF i=((824+8*i.toNat:Nat):Int):=by unfold gF;rw[aB hi];omega
  rw[z] at HI;have aa:(0:Int)<=((824+8*i.toNat:Nat):Int):=by omega
  generalize ((824+8*i.toNat:Nat):Int)=q at *;clear z;by_cases hF:n.F=1
  ·have HQ:Hid (decide (bZ n)=false):=aS λh=>jC.out ⟨by omega,hF,h⟩
   rw[hF] at c0;rw[HQ.out] at yR;go_enter func172,ntmps172;go_wp2_with fail;refine(HI.out _).mono ?_;rintro e w' ⟨rfl,rfl⟩;go_wp2_with((with_reducible show wpList _ _ _ (⟨_,.load 111 (.tmp 5),_,_,_,_⟩::_) _ _);refine eB (by simp[Region.wanted,yielded,aa]) 111 (.tmp 5) rfl _ rfl _ HL.out ?_);refine(yR.out _ HK.out).mono ?_;rintro e w1 ⟨rfl,V⟩;have iU:=au (HK.out.trans' V);clear V;go_wp2_with fail;go_ret;exact⟨rfl,iU.out⟩
  ·have ac:(n.F != 1)=true:=bne_iff_ne.2 hF
   generalize n.F=f at *;go_enter func172,ntmps172;go_wp2_with fail;refine(HI.out _).mono ?_;rintro e w' ⟨rfl,rfl⟩;go_wp2_with fail;go_ret;exact⟨rfl,HK.out⟩
theorem Tk (h:eO w b gp B ps)(aa:In64 (aA B ps))(i:Int)(n:bP)(v:Value)(g:Nat)(hB:n.B.length=13)(hE:bC w v g n.E)(hN:∀k,k<n.E.length->(eU n.E k).size<=9223372036854775807)
  (G:G5 i n) (WS:(aZ (aA B ps)).length<eZ n):
  Calls prog 172 #[.pointer (some ⟨b,0,none⟩),.int .i64 i,.agg (aR n v)] w λe w'=>e= .returned (.int .i64 7)/\az [] w w':=by
 have yR:Hid (∀z,az [] w z->Calls prog 96 #[.agg (aR n v)] z λe w'=>e= .returned (.bool true)/\az [] z w'):=λz hk=>by
  have :=nt n v g hB z (hE.keep hk (by simp)) hN;rwa[bq G.2.2] at this
 have af:=(jz G.2.2).1;have AK:Hid (∀z,Calls prog 194 #[.agg (aR n v)] z λe w'=>e= .returned (.int .i64 ((eZ n:Nat):Int))/\az [] z w'):=λz=>by
  obtain⟨a,cap,rfl,-⟩:=hE;exact QX n a cap hB (by omega) z
 have IK:Hid (∀z,az [] w z->Calls prog 151 #[.pointer (some ⟨b,0,none⟩),.int .i64 ((eZ n:Nat):Int)] z λe w'=>e= .returned (.tuple #[.slice none 0 0,.int .i64 7])/\z=w'):=λz hk=>
  xt (h.keep hk (by simp) (by simp)) aa (eZ n) WS
 have V:=iX v hB;have U:=bh.new w (aR n v) 111;have HL:Hid (∀z,az [] (w.alloc (.cells (aR n v) 111)) z->(loadVar 111 ⟨w.heap.size,0,none⟩).run prog z= .ok (.agg (aR n v)) z):=λz hk=>ct (U.keep hk (by simp)) hB
 have HI:=au (jY i);generalize aR n v=Z at *;have c0:(w.alloc (.cells Z 111)).cell? ⟨w.heap.size,0,none⟩=some (.int .i64 1):=by rw[U.cell,<-G.2.1];exact V.f0
 have HK:Hid (az [] w (w.alloc (.cells Z 111))):=(az.refl [] w).alloc _;have W:gF i=((824+8*i.toNat:Nat):Int):=by unfold gF;rw[aB (by have :=G.1;omega)];have :=G.1;omega
 rw[W] at HI;have ae:(0:Int)<=((824+8*i.toNat:Nat):Int):=by omega
 generalize ((824+8*i.toNat:Nat):Int)=q at *;clear U V hE hN hB W G h aa WS;have GV:=au (HL.out _ (az.refl [] _));generalize ((eZ n:Nat):Int)=nn at *;go_enter func172,ntmps172;go_wp2_with fail;refine(HI.out _).mono ?_;rintro e w' ⟨rfl,rfl⟩;go_wp2_with((with_reducible show wpList _ _ _ (⟨_,.load 111 (.tmp 5),_,_,_,_⟩::_) _ _);refine eB (by simp[Region.wanted,yielded,ae]) 111 (.tmp 5) rfl _ rfl _ GV.out ?_);refine(yR.out _ HK.out).mono ?_;rintro e w1 ⟨rfl,J⟩;have iU:=au (HK.out.trans' J);have yr:=au (HL.out _ J);clear J;go_wp2_with(with_reducible refine gL 111 yr.out ?_);refine(AK.out _).mono ?_;rintro e w2 ⟨rfl,ac⟩;have fL:=au (iU.out.trans' ac);clear ac;go_wp2_with fail;refine(IK.out _ fL.out).mono ?_;rintro e w3 ⟨rfl,rfl⟩;go_wp2_with fail;go_ret;exact⟨rfl,fL.out⟩
def w4 (ws:List Nat):Array Value:= #[.int .u64 ((ws.getD 0 0:Nat):Int),.int .u64 ((ws.getD 1 0:Nat):Int),.int .u64 ((ws.getD 2 0:Nat):Int),.int .u64 ((ws.getD 3 0:Nat):Int)]
theorem Tm{l:List Nat}(h:Reads w v g (dE l)):∃a cap,v= .slice a l.length cap/\l.length<=cap/\cap<=maxLen/\
  Hid (∀k,k<l.length->g<w.heap.size/\∃off,a=some ⟨g,off,none⟩/\w.cell? ⟨g,off+k,none⟩=some (.int .i64 ((l.getD k 0:Nat):Int))):=by
 obtain⟨a,cap,U,G,V,h3⟩:=h;rw[fI] at *;refine⟨a,cap,U,G,V,λk z=> ?_⟩;obtain⟨J,off,W,hc⟩:=h3 (by intro e;have :=cB List.length e;rw[fI,b8] at this;omega);exact⟨J,off,W,(hc k z).trans (np z)⟩
theorem aaN{P:Program}{ty e:TypeId}{off T:Nat}{Z:Array Value}(z:P.underlying ty=some (.slice e))(G:bh w g Z T)(U:Z[off]? =some v):(loadVar ty ⟨g,off,none⟩).run P w= .ok v w:=by
 have h:(isAgg ty).run P w= .ok false w:=by
  unfold isAgg;rw[cg,dQ z w];rfl
 have J:w.cell? ⟨g,off,none⟩=some v:=by rw[G.cell,U]
 simp[loadVar,h,J]
theorem ac3 (h:eO w b gp B ps)(bn:In64 (aA B ps))(hT:kg w)(Gz:gp<w.heap.size)(bF:ps.length<=800000)(i:Int)(n:bP)(v:Value)(g:Nat)(hB:n.B.length=13)(hE:bC w v g n.E)
  (hN:∀k,k<n.E.length->(eU n.E k).size<=9223372036854775807) (ac:G5 i n) (bt:n.E.length≠0->g≠b/\g≠gp) (hn:eZ n<=(aZ (aA B ps)).length):
  Calls prog 172 #[.pointer (some ⟨b,0,none⟩),.int .i64 i,.agg (aR n v)] w λe w'=>e= .returned (.int .i64 0)/\Onto w b gp B (ps++oP (aA B ps) i.toNat n ((aZ (aA B ps)).take (eZ n))) w':=by
 have yR:Hid (∀z,az [] w z->Calls prog 96 #[.agg (aR n v)] z λe w'=>e= .returned (.bool true)/\az [] z w'):=λz hk=>by
  have :=nt n v g hB z (hE.keep hk (by simp)) hN;rwa[bq ac.2.2] at this
 have bY:=jz ac.2.2;have AK:Hid (∀z,Calls prog 194 #[.agg (aR n v)] z λe w'=>e= .returned (.int .i64 ((eZ n:Nat):Int))/\az [] z w'):=λz=>by
  obtain⟨a,cap,rfl,-⟩:=hE;exact QX n a cap hB (by omega) z
 have Zg:Hid (∀z,Calls prog 192 #[.agg (aR n v)] z λe w'=>e= .returned (.int .i64 ((bj n.E.length:Nat):Int))/\az [] z w'):=λz=>by
  obtain⟨a,cap,rfl,-⟩:=hE;exact rG n a cap hB (by omega) z
 have b8:=BD (aA B ps);have IK:Hid (∀z,az [] w z->Calls prog 151 #[.pointer (some ⟨b,0,none⟩),.int .i64 ((eZ n:Nat):Int)] z (AH z b gp B ps ((aZ (aA B ps)).take (eZ n)))):=λz hk=>
  BZ (h.keep hk (by simp) (by simp)) bn (hT.keep hk) (bL Gz hk.size) (by omega) (eZ n) hn
 have D3:Hid (∀c∈(aZ (aA B ps)).take (eZ n),c≠0/\c<256):=λc hc=>by
  have :=jT.1 (bM hc);exact⟨this.2.1,this.1⟩
 have ax:((aZ (aA B ps)).take (eZ n)).length=eZ n:=by rw[aJ,cC hn]
 have cx:bj n.E.length<=eZ n/\eZ n<=bj n.E.length+1:=by unfold eZ;split<;>omega
 have aU:=iX v hB;have aI:=bh.new w (aR n v) 111;have cz:=h.raw.lt;have HI:=au (jY i);have b7:=au (sH ac.2.2);have bV:=au (Md ac.2.2 hN);have HR:=au ac.2.2;have HB:=au hB;have bS:Hid (∀(l:List Int) (aa:Int),l.length=13->acG l->0<=aa/\aa<9223372036854775808->∀z,Calls prog 193 #[.agg (aR n v),.agg (zs l).toArray,.int .i64 aa] z λe w'=>e= .returned (.agg (aW (il n l aa)).toArray)/\az [] z w'):=λl aa hl ck h0 z=>CZ n v hB b7.out l hl ck aa h0 z
 have pX:Hid (∀z,bh z w.heap.size (aR n v) 111->(loadVar 111 ⟨w.heap.size,0,none⟩).run prog z= .ok (.agg (aR n v)) z/\(loadVar 109 ⟨w.heap.size,4,none⟩).run prog z= .ok (.agg (zs n.B).toArray) z):=λz hb=>⟨ct hb hB,ac2 hb hB⟩
 have G7:Hid (oP (aA B ps) i.toNat n ((aZ (aA B ps)).take (eZ n))=cW (aA B ps) ((aZ (aA B ps)).take (eZ n))++vz i.toNat n ((aZ (aA B ps)).take (eZ n))):=rfl;have BP:Hid ((cW (aA B ps) ((aZ (aA B ps)).take (eZ n))).length=9*eZ n):=by
  show _=_;rw[po _ _ D3.out,ax]
 generalize bN:(aZ (aA B ps)).take (eZ n)=own at *;generalize oP (aA B ps) i.toNat n own=aT at *;generalize WT:cW (aA B ps) own=WU at *;have bU:=au WT;clear WT;have bD:gF i=((824+8*i.toNat:Nat):Int):=by unfold gF;rw[aB (by have :=ac.1;omega)];have :=ac.1;omega
 rw[bD] at HI;have jK:i.toNat<32:=by have :=ac.1;omega
 have c0:(w.alloc (.cells (aR n v) 111)).cell? ⟨w.heap.size,0,none⟩=some (.int .i64 1):=by rw[aI.cell,<-ac.2.1];exact aU.f0
 generalize hZ:aR n v=Z at *;have bI:Z[17]? =some v:=aU.f5;have HK:Hid (az [] w (w.alloc (.cells Z 111))):=(az.refl [] w).alloc _;have oK:=au aI;have HE:=au hE;have HS:=au h;have yI:=au bF;have GV:=au (pX.out _ aI).1;generalize hq:824+8*i.toNat=q at *;have HQ:Hid (q=824+8*i.toNat):=hq.symm;have Rc:q+8<=3128:=by omega
 clear hq jK;have b6:(0:Int)<=(q:Int):=by omega
 clear aI aU hE hN hB bD h bn hT b8 hn bN bF;go_enter func172,ntmps172;go_wp2_with fail;refine(HI.out _).mono ?_;rintro e w' ⟨rfl,rfl⟩;go_wp2_with((with_reducible show wpList _ _ _ (⟨_,.load 111 (.tmp 5),_,_,_,_⟩::_) _ _);refine eB (by simp[Region.wanted,yielded,b6]) 111 (.tmp 5) rfl _ rfl _ GV.out ?_);refine(yR.out _ HK.out).mono ?_;rintro e w1 ⟨rfl,aS⟩;have iU:=au (HK.out.trans' aS);have tM:=au (oK.out.keep aS (by simp));have yr:=au (pX.out _ tM.out).1;clear aS GV oK HK;go_wp2_with(with_reducible refine gL 111 yr.out ?_);refine(AK.out _).mono ?_;rintro e w2 ⟨rfl,V⟩;have fL:=au (iU.out.trans' V);have o7:=au (tM.out.keep V (by simp));clear V iU tM yr AK yR;go_wp2_with fail;refine(IK.out _ fL.out).mono ?_;rintro e w3 ⟨vo,go,rfl,bv,cv,cn,kX,cF,cH,bb,aH⟩;rw[bU.out] at bb;have bo:=fL.out.size;have cA:=o7.out.lt;have rb:=au (o7.out.keep aH (by simp only[aP,aM,bz];omega));have bp:Hid (bC w3 v g n.E):=(HE.out.keep fL.out (by simp)).keep aH (λcj=>by have :=bt cj;simp only[aP,aM,bz];omega);have mV:Hid (az [b,gp] w w3):=(fL.out.mono (by simp)).trans' aH;have xX:=au bb;have Fm:=au bv;have zC:=au (pX.out _ rb.out).1;have cB:=aH.size;obtain⟨a,oc,rfl,Mg,G8,-⟩:=bv;have bX:Hid ((dE own).length=eZ n):=by show _=_;rw[fI,ax]
 rw[bX.out] at Mg Fm ⊢;have Tn:Hid (n.E.length≠0->g∉[b,kX]):=λh0 hm=>by
  have h1:=bt h0;have h2:g<w.heap.size:=by
   rcases dG g w.heap.size with h|h
   ·exact h
   ·exact absurd (ay.2 rfl) (HE.out.apart (l:=[g]) (λx G=>by rw[ay] at G;omega) h0)
  simp only[aP,aM,bz] at hm;rcases hm with rfl|rfl
  ·exact h1.1 rfl
  ·omega
 clear IK fL o7 HE HS aH bb;have OY:=oH;go_wp2_with(with_reducible refine gL 111 zC.out ?_);refine(Zg.out _).mono ?_;rintro e w4 ⟨rfl,ae⟩;have AL:=au (rb.out.keep ae (by simp));have Pe:=au (bp.out.keep ae (by simp));have pW:=au (mV.out.trans' (ae.mono (by simp)));have vB:=au (xX.out.keep ae (by simp) (by simp));have bg:=au (Fm.out.keep ae (by simp));have cp:=ae.size;have br:=au (pX.out _ AL.out).2;have WV:=bh.new w4 (zs (List.replicate 13 0)).toArray 109;obtain⟨w5,Aw,rI,j6⟩:=bB (P:= prog) (ty:= 109) (cs:=zs n.B) (by rw[eF,HB.out];exact kP) WV (by simp[eF,HB.out]) (l9 _);have Ay:=au Aw;have wE:az [] w4 w5.drew:=(((az.refl [] w4).alloc _).trans j6 (by intro x G;rw[ay] at G;omega)).drew;have aY:=bg.out.keep wE (by simp);rw[<-ax] at aY;obtain⟨vc,w6,yO,yP,kG⟩:=Te (n:=13) (cap:=13) (m:=bj n.E.length) (mc:=oc) rI.drew aY (by omega) (by rw[HB.out];omega) (by omega);have Zj:=au yO;have G9:az [] w4 w6:=wE.trans kG (by intro x G;rw[ay] at G;omega);have Q6:=au (AL.out.keep G9 (by simp));have bJ:=au (Pe.out.keep G9 (by simp));have o8:=au (pW.out.trans' (G9.mono (by simp)));have DG:=au (vB.out.keep G9 (by simp) (by simp));have bW:=au (bg.out.keep G9 (by simp));have bf:bh w6 w4.heap.size (zs (dY n own)).toArray 109 :=yP;have bH:=au bf;have cr:=G9.size;have cu:=bf.lt;have bK:=Tf w4.heap.size;have b9:=Pa a (eZ n) oc (bj n.E.length) (by omega);have EJ:=au (tY (own:=own) HB.out (by omega) (by omega));have WQ:=au (B0 HR.out HB.out (by omega) D3.out);have vY:Hid (bj n.E.length<own.length->fk n own=own.getD (bj n.E.length) 0/\pE n own=jD (1080+8*fk n own) ((dY n own).drop 5) 8):=λhc=>by
  refine⟨by unfold fk;rw[aC hc],by unfold pE;rw[aC hc]⟩
 have GC:Hid (¬bj n.E.length<own.length->fk n own=0/\pE n own=[]):=λhc=>by
  refine⟨by unfold fk;rw[aB hc],by unfold pE;rw[aB hc]⟩
 have Vw:Hid (aT=WU++(rM n.E (dY n own) (bj n.E.length)++(pE n own++jD q (il n (dY n own) ((fk n own:Nat):Int)) 8))):=by
  have h1:=G7.out;unfold vz at h1;rw[<-HQ.out] at h1;exact h1
 have Au:Hid (∀k,k<bj n.E.length->4*k<n.E.length):=λk hk=>by unfold bj at hk;omega
 have aV:=BP.out;have cE:=yI.out;clear Aw rI j6 wE yO yP kG G9 bf WV G7 Zg zC mV xX bp rb Fm pW vB Pe AL bg aY ae;generalize yz:bj n.E.length=W at *;generalize (zs n.B).toArray=ZB at *;generalize (zs (List.replicate 13 0)).toArray=ZN at *;go_wp2_with(first|(with_reducible refine gL 109 br.out ?_)|(with_reducible refine gS 109 Ay.out ?_));refine fw (l:=[_,_,_,_]) (o:=_) (S:=λz=>z=w5.drew) (by kernel_rfl) rfl (by kernel_rfl) (λd _ _ _ _ h=>by cases d<;>exact h) rfl (by kernel_rfl) (by kernel_rfl) ?_;repeat (refine aK.cons ?_ (bc.val rfl ?h) ?_;(case h=>(intro z G;go_simp;rfl));simp only[Act.put,ag,ah,ai])
 refine aK.done λz G=> ?_
 subst G;refine iQ rfl (.tmp 40) (.tmp 43) 141 141 rfl _ _ rfl rfl (Zj.out _) ?_;clear bK b9 Ay br Zj OY;have bG:Hid (kX=gp\/(w.heap.size<=kX/\kX<w6.heap.size)):=by show _\/_;omega
 have cD:b<w.heap.size/\w.heap.size<w4.heap.size/\kX<w6.heap.size/\kX≠w.heap.size/\kX≠w4.heap.size/\go<w4.heap.size/\w.heap.size<=go:=by omega
 have cI:go<w6.heap.size:=by omega
 generalize w4.heap.size=lb at *;have HX:Hid (∀z,az [b,kX] w6 z->bh z w.heap.size Z 111/\bC z v g n.E/\Reads z (.slice a (eZ n) oc) go (dE own)/\bh z lb (zs (dY n own)).toArray 109):=λz hk=>by
  refine⟨Q6.out.keep hk ?_,bJ.out.keep hk Tn.out,bW.out.keep hk ?_,bH.out.keep hk ?_⟩
  ·simp only[aP,aM,bz];omega
  ·simp only[aP,aM,bz];omega
  ·simp only[aP,aM,bz];omega
 have bl:Hid (Onto w6 b kX B (ps++(WU++rM n.E (dY n own) 0)) w6):=by
  show Onto _ _ _ _ _ _;rw[show rM n.E (dY n own) 0=[] from rfl,bu];exact Onto.refl DG.out
 have cw:Hid (W<=6):=bY.2.1;have HF:Hid (∀(x:Int),x=((fk n own:Nat):Int)->∀wy,Onto w6 b kX B (ps++(WU++(rM n.E (dY n own) W++pE n own))) wy->∀z,az [] wy z->
   (loadVar 111 ⟨w.heap.size,0,none⟩).run prog z= .ok (.agg Z) z/\(loadVar 109 ⟨lb,0,none⟩).run prog z= .ok (.agg (zs (dY n own)).toArray) z/\
   Calls prog 193 #[.agg Z,.agg (zs (dY n own)).toArray,.int .i64 x] z (λe w'=>e= .returned (.agg (aW (il n (dY n own) x)).toArray)/\az [] z w')/\
   Calls prog 195 #[.pointer (some ⟨b,0,none⟩),.int .i64 (q:Int),.agg (aW (il n (dY n own) x)).toArray] z (λe w'=>e= .returned (.tuple #[])/\Hid (Onto w b gp B (ps++aT) w'))):=by
  rintro x rfl wy ⟨pq,Pf,af,V⟩ z hk;obtain⟨ar,-,-,ak⟩:=HX.out _ V;have tO:fk n own<256:=by
   by_cases hc:W<own.length
   ·have h1:=D3.out (own.getD W 0) (by rw[aj,aG hc];exact bA _)
    rw[(vY.out hc).1];exact h1.2
   ·rw[(GC.out hc).1];omega
  have av:(pE n own).length<=8:=by
   by_cases hc:W<own.length
   ·rw[(vY.out hc).2,nW];omega
   ·rw[(GC.out hc).2];simp
  have LS:=ar.keep hk (by simp);have bZ:=ak.keep hk (by simp);have bT:(il n (dY n own) ((fk n own:Nat):Int)).length=8:=by simp[il,EJ.out]
  refine⟨(pX.out _ LS).1,fc (off:=0) bZ EJ.out (λk hk=>by rw[aX,aF,fR (by rw[EJ.out];exact hk)]),bS.out _ _ EJ.out (λk=>by have :=WQ.out k;omega) (by omega) z,?_⟩;have h1:=rf (af.keep hk (by simp) (by simp)) (by simp only[aD,xW,aV];omega) q (by omega) (il n (dY n own) ((fk n own:Nat):Int)) bT;refine h1.mono ?_;rintro e w' ⟨J,h2⟩;refine⟨J,?_⟩;have e1:ps++(WU++(rM n.E (dY n own) W++pE n own))++jD q (il n (dY n own) ((fk n own:Nat):Int)) 8=ps++aT:=by rw[Vw.out];simp only[ba]
  rw[e1] at h2;have bo:=V.size;exact Onto.trans bG.out o8.out (Onto.trans Pf V (Onto.mono hk (by omega) h2))
 go_wp2_with fail;go_loopg [46] W (λgh s46 z=>∃k:Nat,k+gh=W/\s46= .int .i64 (k:Int)/\Hid (Onto w6 b kX B (ps++(WU++rM n.E (dY n own) k)) z))
 case atStart=>exact⟨0,by omega,rfl,bl.out⟩
 case round=>
  clear bl;obtain⟨k,hk,rfl,HP⟩:=hrel;obtain⟨pq,Pf,af,V⟩:=HP.out;obtain⟨ar,aL,aO,ak⟩:=HX.out _ V;have bo:=V.size;cases gk with
  |zero=>
   obtain rfl:k=W:=by omega
   by_cases hc:k<own.length
   ·obtain⟨tO,av⟩:=vY.out hc
    obtain⟨off,bw,cd⟩:∃off,a=some ⟨go,off,none⟩/\wr.cell? ⟨go,off+k,none⟩=some (.int .i64 ((fk n own:Nat):Int)):=by
     obtain⟨a',cm,J,-,-,HC⟩:=Tm aO
     injection J with h1 h2 h3
     subst h1;obtain⟨-,off,ho,bQ⟩:=HC.out k hc;exact⟨off,ho,by rw[bQ,tO]⟩
    have cy:fk n own<256:=by
     have h1:=D3.out (own.getD k 0) (by rw[aj,aG hc];exact bA _);rw[tO];exact h1.2
    have p9:Hid (∀z,az [] wr z->(loadVar 109 ⟨lb,0,none⟩).run prog z= .ok (.agg (zs (dY n own)).toArray) z):=λz U=>
     fc (off:=0) (ak.keep U (by simp)) EJ.out (λk hk=>by rw[aX,aF,fR (by rw[EJ.out];exact hk)])
    have D8:Hid (∀z,Calls prog 149 #[.int .i64 ((fk n own:Nat):Int)] z λe w'=>e= .returned (.int .i64 ((1080+8*fk n own:Nat):Int))/\z=w'):=λz=>by
     have :=jU ((fk n own:Nat):Int) z;rwa[iL,aB (by omega),show 1080+((fk n own:Nat):Int)*8=((1080+8*fk n own:Nat):Int) by omega] at this
    have O5:Hid (∀z,Calls prog 197 #[.agg (zs (dY n own)).toArray] z λe w'=>e= .returned (.agg (aW ((dY n own).drop 5)).toArray)/\az [] z w'):=λz=>OQ _ EJ.out (λk=>by have :=WQ.out k;omega) z
    have E0:Hid (∀z,az [] wr z->Calls prog 195 #[.pointer (some ⟨b,0,none⟩),.int .i64 ((1080+8*fk n own:Nat):Int),.agg (aW ((dY n own).drop 5)).toArray] z λe w'=>e= .returned (.tuple #[])/\Onto w6 b kX B (ps++(WU++(rM n.E (dY n own) k++pE n own))) w'):=λz U=>by
     have h1:=rf (af.keep U (by simp) (by simp)) (by simp only[aD,xW,aV];omega) (1080+8*fk n own) (by omega) ((dY n own).drop 5) (by rw[bE,EJ.out]);refine h1.mono ?_;rintro e w' ⟨J,h2⟩;refine⟨J,?_⟩;rw[ba,ba,<-av] at h2;exact Onto.trans Pf V (Onto.mono U (by omega) h2)
    have bR:(k:Int)<((eZ n:Nat):Int):=by omega
    have dt:(0:Int)<=(k:Int):=by omega
    subst bw;have HF:=au (HF.out ((fk n own:Nat):Int) rfl);clear HP af ar aL aO ak vY GC tO av HX;generalize (aW (il n (dY n own) ((fk n own:Nat):Int))).toArray=ZR at *;generalize (aW ((dY n own).drop 5)).toArray=ZD at *;generalize (zs (dY n own)).toArray=ZL at *;generalize ((1080+8*fk n own:Nat):Int)=bk at *;generalize ((fk n own:Nat):Int)=li at *;go_wp2_with fail;refine fw (l:=[_,_,_,_,_]) (o:=_) (S:=λz=>az [] wr z) (by kernel_rfl) rfl (by kernel_rfl) (λd _ _ _ _ h=>by cases d<;>exact h) ((az.refl _ _).drew) (by kernel_rfl) (by kernel_rfl) ?_;repeat (first
     |(refine aK.cons (.agg ZL) (bc.load rfl 109 (.tmp 10) rfl _ rfl λz G=>p9.out z G) ?_;simp only[Act.put,ag,ah,ai])
     |(refine aK.cons (.int .i64 bk) (bc.call rfl 149 #[.int .i64 li] ?J ?h) ?_;(case J=>(intro wz;go_simp));(case h=>exact λz G=>(D8.out z).mono λe w' J=>⟨J.1,J.2▸G⟩);simp only[Act.put,ag,ah,ai])
     |(refine aK.cons (.agg ZD) (bc.call rfl 197 #[.agg ZL] ?J ?h) ?_;(case J=>(intro wz;go_simp));(case h=>exact λz G=>(O5.out z).mono λe w' J=>⟨J.1,G.trans' J.2⟩);simp only[Act.put,ag,ah,ai])
     |(refine aK.cons ?_ (bc.val rfl ?h) ?_;(case h=>(intro z G;clear G;go_simp;rfl));simp only[Act.put,ag,ah,ai]))
    refine aK.done λz G=> ?_
    have qB:=au G;clear G;go_wp2_with fail;refine(E0.out _ qB.out).mono ?_;rintro e w7 ⟨rfl,zV⟩;have aQ:=au (HF.out w7 zV);clear HF zV qB E0 O5 p9 D8;go_wp2_with fail;refine fw (l:=[_,_,_,_,_,_,_]) (o:=_) (S:=λz=>az [] w7 z) (by kernel_rfl) rfl (by kernel_rfl) (λd _ _ _ _ h=>by cases d<;>exact h) ((az.refl _ _).drew) (by kernel_rfl) (by kernel_rfl) ?_;repeat (first
     |(refine aK.cons (.agg Z) (bc.load rfl 111 (.tmp 5) rfl _ rfl λz G=>(aQ.out z G).1) ?_;simp only[Act.put,ag,ah,ai])
     |(refine aK.cons (.agg ZL) (bc.load rfl 109 (.tmp 10) rfl _ rfl λz G=>(aQ.out z G).2.1) ?_;simp only[Act.put,ag,ah,ai])
     |(refine aK.cons (.int .i64 (q:Int)) (bc.call rfl 137 #[.int .i64 i] ?J ?h) ?_;(case J=>(intro wz;go_simp));(case h=>exact λz G=>(HI.out z).mono λe w' J=>⟨J.1,J.2▸G⟩);simp only[Act.put,ag,ah,ai])
     |(refine aK.cons (.agg ZR) (bc.call rfl 193 #[.agg Z,.agg ZL,.int .i64 li] ?J ?h) ?_;(case J=>(intro wz;go_simp));(case h=>exact λz G=>(aQ.out z G).2.2.1.mono λe w' J=>⟨J.1,G.trans' J.2⟩);simp only[Act.put,ag,ah,ai])
     |(refine aK.cons ?_ (bc.val rfl ?h) ?_;(case h=>(intro z G;clear G;go_simp;rfl));simp only[Act.put,ag,ah,ai]))
    refine aK.done λz G=> ?_
    have qB:=au G;clear G;go_wp2_with fail;refine(aQ.out _ qB.out).2.2.2.mono ?_;rintro e w' ⟨rfl,zV⟩;go_wp2_with fail;go_ret;exact⟨rfl,zV.out⟩
   ·obtain⟨tO,av⟩:=GC.out hc
    have aN:=au (HF.out 0 (by rw[tO];rfl) wr (by rw[av,bu];exact HP.out));have cG:¬(k:Int)<((eZ n:Nat):Int):=by omega
    clear HF HP af ar aL aO ak vY GC tO av HX;generalize (aW (il n (dY n own) 0)).toArray=ZR at *;generalize (zs (dY n own)).toArray=ZL at *;go_wp2_with fail;refine fw (l:=[_,_,_,_,_,_,_]) (o:=_) (S:=λz=>az [] wr z) (by kernel_rfl) rfl (by kernel_rfl) (λd _ _ _ _ h=>by cases d<;>exact h) ((az.refl _ _).drew) (by kernel_rfl) (by kernel_rfl) ?_;repeat (first
     |(refine aK.cons (.agg Z) (bc.load rfl 111 (.tmp 5) rfl _ rfl λz G=>(aN.out z G).1) ?_;simp only[Act.put,ag,ah,ai])
     |(refine aK.cons (.agg ZL) (bc.load rfl 109 (.tmp 10) rfl _ rfl λz G=>(aN.out z G).2.1) ?_;simp only[Act.put,ag,ah,ai])
     |(refine aK.cons (.int .i64 (q:Int)) (bc.call rfl 137 #[.int .i64 i] ?J ?h) ?_;(case J=>(intro wz;go_simp));(case h=>exact λz G=>(HI.out z).mono λe w' J=>⟨J.1,J.2▸G⟩);simp only[Act.put,ag,ah,ai])
     |(refine aK.cons (.agg ZR) (bc.call rfl 193 #[.agg Z,.agg ZL,.int .i64 0] ?J ?h) ?_;(case J=>(intro wz;go_simp));(case h=>exact λz G=>(aN.out z G).2.2.1.mono λe w' J=>⟨J.1,G.trans' J.2⟩);simp only[Act.put,ag,ah,ai])
     |(refine aK.cons ?_ (bc.val rfl ?h) ?_;(case h=>(intro z G;clear G;go_simp;rfl));simp only[Act.put,ag,ah,ai]))
    refine aK.done λz G=> ?_
    have qB:=au G;clear G;go_wp2_with fail;refine(aN.out _ qB.out).2.2.2.mono ?_;rintro e w' ⟨rfl,zV⟩;go_wp2_with fail;go_ret;exact⟨rfl,zV.out⟩
  |succ gg=>
   have bO:k<W:=by omega
   have bR:(k:Int)<(W:Int):=by omega
   have dt:(0:Int)<=(k:Int):=by omega
   have mC:(k:Int)<13:=by omega
   have Q4:=WQ.out k;have cf:Hid (∀z,az [] wr z->(loadVar 3 ⟨lb,k,none⟩).run prog z= .ok (.int .i64 ((dY n own).getD k 0)) z):=λz U=>ER (off:=k) underlying3 (ak.keep U (by simp)) (by rw[aF,fR (by rw[EJ.out];omega)])
   have cg:Hid (∀z,az [] wr z->(loadVar 32 ⟨w.heap.size,17,none⟩).run prog z= .ok v z):=λz U=>aaN (off:=17) underlying32 (ar.keep U (by simp)) bI
   have D8:Hid (∀z,Calls prog 149 #[.int .i64 ((dY n own).getD k 0)] z λe w'=>e= .returned (.int .i64 ((1080+8*((dY n own).getD k 0).toNat:Nat):Int))/\z=w'):=λz=>by
    have :=jU ((dY n own).getD k 0) z;rwa[iL,aB (by omega),show 1080+(dY n own).getD k 0*8=((1080+8*((dY n own).getD k 0).toNat:Nat):Int) by omega] at this
   have tz:Hid (∀z,az [] wr z->Calls prog 196 #[v,.int .i64 (k:Int)] z λe w'=>e= .returned (.agg (aW (iG n.E k)).toArray)/\az [] z w'):=λz U=>xh (aL.keep U (by simp)) bV.out k (Au.out k bO)
   have E0:Hid (∀z,az [] wr z->Calls prog 195 #[.pointer (some ⟨b,0,none⟩),.int .i64 ((1080+8*((dY n own).getD k 0).toNat:Nat):Int),.agg (aW (iG n.E k)).toArray] z λe w'=>e= .returned (.tuple #[])/\Hid (Onto w6 b kX B (ps++(WU++rM n.E (dY n own) (k+1))) w')):=λz U=>by
    have h1:=rf (af.keep U (by simp) (by simp)) (by simp only[aD,xW,aV];omega) (1080+8*((dY n own).getD k 0).toNat) (by omega) (iG n.E k) (lC _ _ _);refine h1.mono ?_;rintro e w' ⟨J,h2⟩;refine⟨J,?_⟩;rw[ba,ba,<-zA] at h2;exact Onto.trans Pf V (Onto.mono U (by omega) h2)
   clear HP af ar aL aO ak HX HF vY GC Q4;generalize ((1080+8*((dY n own).getD k 0).toNat:Nat):Int)=bk at *;generalize (dY n own).getD k 0=x at *;generalize (aW (iG n.E k)).toArray=RW at *;go_wp2_with fail;refine fw (l:=[_,_,_,_,_,_,_,_,_]) (o:=_) (S:=λz=>az [] wr z) (by kernel_rfl) rfl (by kernel_rfl) (λd _ _ _ _ h=>by cases d<;>exact h) ((az.refl _ _).drew) (by kernel_rfl) (by kernel_rfl) ?_;repeat (first
    |(refine aK.cons (.int .i64 x) (bc.load rfl 3 (.tmp 51) rfl _ rfl λz G=>cf.out z G) ?_;simp only[Act.put,ag,ah,ai])
    |(refine aK.cons v (bc.load rfl 32 (.tmp 54) rfl _ rfl λz G=>cg.out z G) ?_;simp only[Act.put,ag,ah,ai])
    |(refine aK.cons (.int .i64 bk) (bc.call rfl 149 #[.int .i64 x] ?J ?h) ?_;(case J=>(intro wz;go_simp));(case h=>exact λz G=>(D8.out z).mono λe w' J=>⟨J.1,J.2▸G⟩);simp only[Act.put,ag,ah,ai])
    |(refine aK.cons (.agg RW) (bc.call rfl 196 #[v,.int .i64 (k:Int)] ?J ?h) ?_;(case J=>(intro wz;go_simp));(case h=>exact λz G=>(tz.out z G).mono λe w' J=>⟨J.1,G.trans' J.2⟩);simp only[Act.put,ag,ah,ai])
    |(refine aK.cons ?_ (bc.val rfl ?h) ?_;(case h=>(intro z G;clear G;go_simp;rfl));simp only[Act.put,ag,ah,ai]))
   refine aK.done λz G=> ?_
   have qB:=au G;clear G;go_wp2_with fail;refine(E0.out _ qB.out).mono ?_;rintro e w' ⟨rfl,zV⟩;go_wp2_with fail;go_roundg gg;case measure=>omega
   case rel=>exact⟨k+1,by omega,by go_num,zV.out⟩
def xw (i:Int) (n:bP):Prop:=(0<=i/\i<32)/\n.F=2/\bZ n
instance (i:Int) (n:bP):Decidable (xw i n):=by unfold xw;infer_instance
theorem WW (i:Int)(n:bP)(v:Value)(g:Nat)(hB:n.B.length=13)(hE:bC w v g n.E)(hN:∀k,k<n.E.length->(eU n.E k).size<=9223372036854775807)(W:¬xw i n):
  Calls prog 174 #[p,.int .i64 i,.agg (aR n v)] w λe w'=>e= .returned (.int .i64 1)/\az [] w w':=by
 have yR:Hid (∀U,az [] w U->Calls prog 96 #[.agg (aR n v)] U λe w'=>e= .returned (.bool (decide (bZ n)))/\az [] U w'):=λU hk=>nt n v g hB U (hE.keep hk (by simp)) hN
 have J:=iX v hB;have G:=bh.new w (aR n v) 111;have HL:=au (ct G hB);have HI:=au (jY i);generalize aR n v=Z at *;have c0:(w.alloc (.cells Z 111)).cell? ⟨w.heap.size,0,none⟩=some (.int .i64 n.F):=by rw[G.cell];exact J.f0
 have HK:Hid (az [] w (w.alloc (.cells Z 111))):=(az.refl [] w).alloc _;have jC:=au W;clear G J hE hN hB W;by_cases hi:i<0\/32<=i
 ·have z:gF i= -1:=by unfold gF;rw[aC hi]
  rw[z] at HI;clear z;go_enter func174,ntmps174;go_wp2_with fail;refine(HI.out _).mono ?_;rintro e w' ⟨rfl,rfl⟩;go_wp2_with fail;go_ret;exact⟨rfl,HK.out⟩
 ·have z:gF i=((824+8*i.toNat:Nat):Int):=by unfold gF;rw[aB hi];omega
  rw[z] at HI;have aa:(0:Int)<=((824+8*i.toNat:Nat):Int):=by omega
  generalize ((824+8*i.toNat:Nat):Int)=q at *;clear z;by_cases hF:n.F=2
  ·have HQ:Hid (decide (bZ n)=false):=aS λh=>jC.out ⟨by omega,hF,h⟩
   rw[hF] at c0;rw[HQ.out] at yR;go_enter func174,ntmps174;go_wp2_with fail;refine(HI.out _).mono ?_;rintro e w' ⟨rfl,rfl⟩;go_wp2_with((with_reducible show wpList _ _ _ (⟨_,.load 111 (.tmp 5),_,_,_,_⟩::_) _ _);refine eB (by simp[Region.wanted,yielded,aa]) 111 (.tmp 5) rfl _ rfl _ HL.out ?_);refine(yR.out _ HK.out).mono ?_;rintro e w1 ⟨rfl,V⟩;have iU:=au (HK.out.trans' V);clear V;go_wp2_with fail;go_ret;exact⟨rfl,iU.out⟩
  ·have ac:(n.F != 2)=true:=bne_iff_ne.2 hF
   generalize n.F=f at *;go_enter func174,ntmps174;go_wp2_with fail;refine(HI.out _).mono ?_;rintro e w' ⟨rfl,rfl⟩;go_wp2_with fail;go_ret;exact⟨rfl,HK.out⟩
theorem Pg (h:eO w b gp B ps)(ac:In64 (aA B ps))(i:Int)(n:bP)(v:Value)(g:Nat)(hB:n.B.length=13)(hE:bC w v g n.E)(hN:∀k,k<n.E.length->(eU n.E k).size<=9223372036854775807)
  (G:xw i n) (WS:(aZ (aA B ps)).length<eP n):
  Calls prog 174 #[.pointer (some ⟨b,0,none⟩),.int .i64 i,.agg (aR n v)] w λe w'=>e= .returned (.int .i64 7)/\az [] w w':=by
 have yR:Hid (∀z,az [] w z->Calls prog 96 #[.agg (aR n v)] z λe w'=>e= .returned (.bool true)/\az [] z w'):=λz U=>by
  have :=nt n v g hB z (hE.keep U (by simp)) hN;rwa[bq G.2.2] at this
 have ag:=(jz G.2.2).1;have AK:Hid (∀z,az [] w z->Calls prog 199 #[.agg (aR n v)] z λe w'=>e= .returned (.int .i64 ((eP n:Nat):Int))/\az [] z w'):=λz U=>by
  have :=Fa n v g hB z (hE.keep U (by simp)) (by omega) hN;rwa[aC G.2.2] at this
 have IK:Hid (∀z,az [] w z->Calls prog 151 #[.pointer (some ⟨b,0,none⟩),.int .i64 ((eP n:Nat):Int)] z λe w'=>e= .returned (.tuple #[.slice none 0 0,.int .i64 7])/\z=w'):=λz U=>
  xt (h.keep U (by simp) (by simp)) ac (eP n) WS
 have W:=iX v hB;have V:=bh.new w (aR n v) 111;have HL:Hid (∀z,az [] (w.alloc (.cells (aR n v) 111)) z->(loadVar 111 ⟨w.heap.size,0,none⟩).run prog z= .ok (.agg (aR n v)) z):=λz U=>ct (V.keep U (by simp)) hB
 have HI:=au (jY i);generalize aR n v=Z at *;have c0:(w.alloc (.cells Z 111)).cell? ⟨w.heap.size,0,none⟩=some (.int .i64 2):=by rw[V.cell,<-G.2.1];exact W.f0
 have HK:Hid (az [] w (w.alloc (.cells Z 111))):=(az.refl [] w).alloc _;have aa:gF i=((824+8*i.toNat:Nat):Int):=by unfold gF;rw[aB (by have :=G.1;omega)];have :=G.1;omega
 rw[aa] at HI;have af:(0:Int)<=((824+8*i.toNat:Nat):Int):=by omega
 generalize ((824+8*i.toNat:Nat):Int)=q at *;clear V W hE hN hB aa G h ac WS;have GV:=au (HL.out _ (az.refl [] _));generalize ((eP n:Nat):Int)=nn at *;go_enter func174,ntmps174;go_wp2_with fail;refine(HI.out _).mono ?_;rintro e w' ⟨rfl,rfl⟩;go_wp2_with((with_reducible show wpList _ _ _ (⟨_,.load 111 (.tmp 5),_,_,_,_⟩::_) _ _);refine eB (by simp[Region.wanted,yielded,af]) 111 (.tmp 5) rfl _ rfl _ GV.out ?_);refine(yR.out _ HK.out).mono ?_;rintro e w1 ⟨rfl,J⟩;have iU:=au (HK.out.trans' J);have yr:=au (HL.out _ J);clear J;go_wp2_with(with_reducible refine gL 111 yr.out ?_);refine(AK.out _ iU.out).mono ?_;rintro e w2 ⟨rfl,ae⟩;have fL:=au (iU.out.trans' ae);clear ae;go_wp2_with fail;refine(IK.out _ fL.out).mono ?_;rintro e w3 ⟨rfl,rfl⟩;go_wp2_with fail;go_ret;exact⟨rfl,fL.out⟩
def sI (Ls:List (List Int)) (own:List Nat) (k:Nat):List (Int×Int):=(List.range k).flatMap λj=>jD (1080+8*own.getD j 0) (Ls.getD j []) 8
theorem zD (Ls:List (List Int))(own:List Nat)(k:Nat):sI Ls own (k+1)=sI Ls own k++jD (1080+8*own.getD k 0) (Ls.getD k []) 8:=by
 unfold sI;rw[dS,List.flatMap_append];simp
theorem Cb (Ls:List (List Int))(own:List Nat)(k:Nat):(sI Ls own k).length=8*k:=by
 induction k with
 |zero=>rfl
 |succ k ih=>rw[zD,aD,ih,nW];omega
def mb (X:List Int) (i:Nat) (n:bP) (own:List Nat):List (Int×Int):=cW X own++(sI (gV n own) own own.length++jD (824+8*i) (nb n own) 8)
theorem Fw (z:bZ n):eP n<=32:=by
 rcases z.2.2 with ⟨-,G⟩|⟨-,h⟩
 ·rw[rp G]
  split<;>omega
 ·rw[ua h]
  have J:=h.1;have W:=j4 n.E 0;have e1:=j4 n.E 1;have V:=j4 n.E 2;have U:=j4 n.E 3;simp only[fN,dN];omega
theorem aaO (h:eO w b gp B ps)(aN:In64 (aA B ps))(hT:kg w)(Gz:gp<w.heap.size)(aY:ps.length<=800000)(i:Int)(n:bP)(v:Value)(g:Nat)(hB:n.B.length=13)(hE:bC w v g n.E)
  (hN:∀k,k<n.E.length->(eU n.E k).size<=9223372036854775807) (G:xw i n) (bw:n.E.length≠0->g≠b/\g≠gp) (hn:eP n<=(aZ (aA B ps)).length):
  Calls prog 174 #[.pointer (some ⟨b,0,none⟩),.int .i64 i,.agg (aR n v)] w λe w'=>e= .returned (.int .i64 0)/\Onto w b gp B (ps++mb (aA B ps) i.toNat n ((aZ (aA B ps)).take (eP n))) w':=by
 have yR:Hid (∀z,az [] w z->Calls prog 96 #[.agg (aR n v)] z λe w'=>e= .returned (.bool true)/\az [] z w'):=λz hk=>by
  have :=nt n v g hB z (hE.keep hk (by simp)) hN;rwa[bq G.2.2] at this
 have b7:=jz G.2.2;have AK:Hid (∀z,az [] w z->Calls prog 199 #[.agg (aR n v)] z λe w'=>e= .returned (.int .i64 ((eP n:Nat):Int))/\az [] z w'):=λz hk=>by
  have :=Fa n v g hB z (hE.keep hk (by simp)) (by omega) hN;rwa[aC G.2.2] at this
 have bE:=BD (aA B ps);have IK:Hid (∀z,az [] w z->Calls prog 151 #[.pointer (some ⟨b,0,none⟩),.int .i64 ((eP n:Nat):Int)] z (AH z b gp B ps ((aZ (aA B ps)).take (eP n)))):=λz hk=>
  BZ (h.keep hk (by simp) (by simp)) aN (hT.keep hk) (bL Gz hk.size) (by omega) (eP n) hn
 have D3:Hid (∀c∈(aZ (aA B ps)).take (eP n),c≠0/\c<256):=λc hc=>by
  have :=jT.1 (bM hc);exact⟨this.2.1,this.1⟩
 have W:((aZ (aA B ps)).take (eP n)).length=eP n:=by rw[aJ,cC hn]
 have bS:=Fw G.2.2;have bZ:((aZ (aA B ps)).take (eP n)).length<=32:=by omega
 have aQ:=iX v hB;have ar:=bh.new w (aR n v) 111;have bT:=h.raw.lt;have HI:=au (jY i);have HR:=au G.2.2;have HB:=au hB;have pX:Hid (∀z,bh z w.heap.size (aR n v) 111->(loadVar 111 ⟨w.heap.size,0,none⟩).run prog z= .ok (.agg (aR n v)) z):=λz hb=>ct hb hB
 have G7:Hid (mb (aA B ps) i.toNat n ((aZ (aA B ps)).take (eP n))=cW (aA B ps) ((aZ (aA B ps)).take (eP n))++(sI (gV n ((aZ (aA B ps)).take (eP n))) ((aZ (aA B ps)).take (eP n)) ((aZ (aA B ps)).take (eP n)).length++jD (824+8*i.toNat) (nb n ((aZ (aA B ps)).take (eP n))) 8)):=rfl;have BP:Hid ((cW (aA B ps) ((aZ (aA B ps)).take (eP n))).length=9*eP n):=by
  show _=_;rw[po _ _ D3.out,W]
 generalize br:(aZ (aA B ps)).take (eP n)=own at *;have bg:Hid (∀z v' U vo,bC z v g n.E->Reads z vo U (dE own)->v'=v->Calls prog 201 #[.agg (aR n v'),vo] z (oN z (nb n own) (gV n own))):=λz v' U vo he ho hv=>by
  subst hv;exact Rb n v' g hB G.2.2 he vo U own ho W λc hc=>(D3.out c hc).2
 have bG:=xu G.2.2 W;have Pd:Hid (∀k,k<own.length->((gV n own).getD k []).length=8):=λk hk=>vA (by omega)
 have af:=AJ n own;generalize mb (aA B ps) i.toNat n own=bl at *;generalize WT:cW (aA B ps) own=WU at *;have bt:=au WT;clear WT;have aX:gF i=((824+8*i.toNat:Nat):Int):=by unfold gF;rw[aB (by have :=G.1;omega)];have :=G.1;omega
 rw[aX] at HI;have jK:i.toNat<32:=by have :=G.1;omega
 have c0:(w.alloc (.cells (aR n v) 111)).cell? ⟨w.heap.size,0,none⟩=some (.int .i64 2):=by rw[ar.cell,<-G.2.1];exact aQ.f0
 generalize bH:nb n own=RW at *;generalize bo:gV n own=BW at *;have bf:Hid (∀z U vo,bC z v g n.E->Reads z vo U (dE own)->Calls prog 201 #[.agg (aR n v),vo] z (oN z RW BW)):=λz U vo he ho=>bg.out z v U vo he ho rfl
 generalize hZ:aR n v=Z at *;have HK:Hid (az [] w (w.alloc (.cells Z 111))):=(az.refl [] w).alloc _;have oK:=au ar;have HE:=au hE;have HS:=au h;have yI:=au aY;have GV:=au (pX.out _ ar);generalize hq:824+8*i.toNat=q at *;have Rc:q+8<=3128:=by omega
 clear hq jK bH bo hZ bg;have bD:(0:Int)<=(q:Int):=by omega
 have bJ:=au W;clear ar aQ hE hN hB aX h aN hT bE hn br aY W G;have bK:=kC;generalize wK:(aW (List.replicate 8 0)).toArray=Z8 at *;have xR:=au wK;clear wK;go_enter func174,ntmps174;go_wp2_with fail;refine(HI.out _).mono ?_;rintro e w' ⟨rfl,rfl⟩;go_wp2_with((with_reducible show wpList _ _ _ (⟨_,.load 111 (.tmp 5),_,_,_,_⟩::_) _ _);refine eB (by simp[Region.wanted,yielded,bD]) 111 (.tmp 5) rfl _ rfl _ GV.out ?_);refine(yR.out _ HK.out).mono ?_;rintro e w1 ⟨rfl,av⟩;have iU:=au (HK.out.trans' av);have tM:=au (oK.out.keep av (by simp));have yr:=au (pX.out _ tM.out);clear av GV oK HK;go_wp2_with(with_reducible refine gL 111 yr.out ?_);refine(AK.out _ iU.out).mono ?_;rintro e w2 ⟨rfl,J⟩;have fL:=au (iU.out.trans' J);have o7:=au (tM.out.keep J (by simp));clear J iU tM yr AK yR;go_wp2_with fail;refine(IK.out _ fL.out).mono ?_;rintro e w3 ⟨vo,U,rfl,aH,bQ,bj,kX,aV,cf,aI,ac⟩;rw[bt.out] at aI;have bO:=fL.out.size;have bW:=o7.out.lt;have rb:=au (o7.out.keep ac (by simp only[aP,aM,bz];omega));have aT:Hid (bC w3 v g n.E):=(HE.out.keep fL.out (by simp)).keep ac (λbI=>by have :=bw bI;simp only[aP,aM,bz];omega);have mV:Hid (az [b,gp] w w3):=(fL.out.mono (by simp)).trans' ac;have xX:=au aI;have Fm:=au aH;have zC:=au (pX.out _ rb.out);have bY:=ac.size;obtain⟨ao,co,rfl,L9,cg,VA⟩:=rK aH;clear IK fL o7 HE HS ac aI aH;go_wp2_with(with_reducible refine gL 111 zC.out ?_);refine(bf.out _ U _ aT.out Fm.out).mono ?_;rintro e w4 ⟨vb,gb,rfl,hb,bU,aF⟩;obtain⟨w5,aL,DD,j6⟩:=bB (P:= prog) (ty:= 195) (cs:=aW RW) (by rw[bp,af];exact ja) (bh.new w4 Z8 195) (by rw[<-xR.out];simp[bp,af]) (fh _);have bN:=aF.size;have wE:az [] w4 w5:=((az.refl [] w4).alloc (.cells Z8 195)).trans j6 (by intro x V;rw[ay] at V;omega);have Ha:az [] w3 w5:=aF.trans' wE;have DF:=au aL;have WI:=au DD;have bb:Hid (oM w5 vb gb BW):=hb.keep wE (by simp);have zz:=au (xX.out.keep Ha (by simp) (by simp));have qG:Hid (az [b,gp] w w5):=mV.out.trans' (Ha.mono (by simp));have bF:Hid (own.length≠0->gb≠b/\gb≠kX/\gb≠w4.heap.size):=λh0=>by
  obtain⟨a,cap,q1,q2,q3,q4⟩:=hb;have :=(q4 (by omega)).1;omega
 have b8:U<w3.heap.size:=bj;have Ob:Hid (∀k,k<own.length->∀z,az [b,kX] w5 z->U<w3.heap.size/\∃off,ao=some ⟨U,off,none⟩/\z.cell? ⟨U,off+k,none⟩=some (.int .i64 ((own.getD k 0:Nat):Int))):=λk hk z C9=>by
  obtain⟨h1,off,h2,h3⟩:=VA.out k hk;refine⟨h1,off,h2,?_⟩;have e1:z.heap[U]? =w5.heap[U]? :=C9.block U (bL h1 Ha.size) (by simp only[aP,aM,bz];omega);have e2:w5.heap[U]? =w3.heap[U]? :=Ha.block U h1 (by simp);exact(aO (w:=w3) (w':=z) (a:=⟨U,off+k,none⟩) (e1.trans e2)).trans h3
 have rI:w4.heap.size<w5.heap.size:=DD.lt;have bR:=Ha.size;have cd:kX<w3.heap.size:=by
  rcases aV with h|h
  ·omega
  ·omega
 have aS:Hid (Onto w5 b kX B (ps++(WU++sI BW own 0)) w5):=by
  refine Onto.refl ?_;have :=zz.out;simpa[sI] using this
 clear aL DD j6 wE Ha aF hb zC xX aT rb Fm mV bf VA;generalize b6:w4.heap.size=g9 at *;go_wp2_with(with_reducible refine gS 195 DF.out ?_);go_loopg [44] own.length (λgh s44 z=>∃k:Nat,k+gh=own.length/\s44= .int .i64 (k:Int)/\Hid (Onto w5 b kX B (ps++(WU++sI BW own k)) z))
 case atStart=>exact⟨0,by omega,rfl,aS.out⟩
 case round=>
  clear aS;obtain⟨k,hk,rfl,HP⟩:=hrel;obtain⟨pq,Pf,ak,J⟩:=HP.out;have O5:Hid (∀z,az [] wr z->(loadVar 195 ⟨g9,0,none⟩).run prog z= .ok (.agg (aW RW).toArray) z):=λz C9=>eY ((WI.out.keep J (by simp only[aP,aM,bz];omega)).keep C9 (by simp)) af
  have aU:=BP.out;have b9:=yI.out;have IE:=J.size;cases gk with
  |zero=>
   obtain rfl:k=own.length:=by omega
   have bu:Hid (∀z,Calls prog 137 #[.int .i64 i] z λe w'=>e= .returned (.int .i64 ((q:Nat):Int))/\z=w'):=λz=>HI.out z
   have E0:Hid (∀z,az [] wr z->Calls prog 195 #[.pointer (some ⟨b,0,none⟩),.int .i64 ((q:Nat):Int),.agg (aW RW).toArray] z λe w'=>e= .returned (.tuple #[])/\Hid (Onto w b gp B (ps++bl) w')):=λz aa=>by
    have h1:=rf (ak.keep aa (by simp) (by simp)) (by simp only[aD,Cb,aU];omega) q Rc RW af;refine h1.mono ?_;rintro e w' ⟨he,h2⟩;refine⟨he,?_⟩;rw[ba,ba,<-G7.out] at h2;have h3:=Onto.trans Pf J (Onto.mono aa (by omega) h2);refine Onto.trans ?_ qG.out h3;rcases aV with h|h
    ·exact .inl h
    ·exact .inr ⟨by omega,by omega⟩
   clear HP ak Ob G7;generalize (aW RW).toArray=ZW at *;generalize ((q:Nat):Int)=qi at *;go_wp2_with fail;refine fw (l:=[_,_,_,_]) (o:=_) (S:=λz=>az [] wr z) (by kernel_rfl) rfl (by kernel_rfl) (λd _ _ _ _ h=>by cases d<;>exact h) ((az.refl _ _).drew) (by kernel_rfl) (by kernel_rfl) ?_;repeat (first
    |(refine aK.cons (.agg ZW) (bc.load rfl 195 (.tmp 9) rfl _ rfl λz V=>O5.out z V) ?_;simp only[Act.put,ag,ah,ai])
    |(refine aK.cons (.int .i64 qi) (bc.call rfl 137 #[.int .i64 i] ?he ?h) ?_;(case he=>(intro wz;go_simp));(case h=>exact λz V=>(bu.out z).mono λe w' he=>⟨he.1,he.2▸V⟩);simp only[Act.put,ag,ah,ai])
    |(refine aK.cons ?_ (bc.val rfl ?h) ?_;(case h=>(intro z V;clear V;go_simp;rfl));simp only[Act.put,ag,ah,ai]))
   refine aK.done λz V=> ?_
   have qB:=au V;clear V;go_wp2_with fail;refine(E0.out _ qB.out).mono ?_;rintro e w' ⟨rfl,zV⟩;go_wp2_with fail;go_ret;exact⟨rfl,zV.out⟩
  |succ gg=>
   have ae:k<own.length:=by omega
   have bV:(k:Int)<(own.length:Int):=by omega
   have dt:(0:Int)<=(k:Int):=by omega
   obtain⟨bX,off,rfl,c1⟩:=Ob.out k ae wr J;obtain⟨bv,cap,rfl,ax,qF⟩:=C8 bb.out (k:=k) (by omega) (Pd.out k ae);have bn:=bF.out (by omega);have p9:Hid (∀z,az [] wr z->(loadVar 195 ⟨gb,bv+k*8,none⟩).run prog z= .ok (.agg (aW (BW.getD k [])).toArray) z):=λz C9=>qF z ((C9.block gb (bL ax J.size) (by simp)).trans (J.block gb ax (by simp only[aP,aM,bz];omega)))
   have WN:own.getD k 0<256:=(D3.out _ (by rw[aj,aG ae];exact bA ae)).2;have D8:Hid (∀z,Calls prog 149 #[.int .i64 ((own.getD k 0:Nat):Int)] z λe w'=>e= .returned (.int .i64 ((1080+8*own.getD k 0:Nat):Int))/\z=w'):=λz=>by
    have :=jU ((own.getD k 0:Nat):Int) z;rwa[iL,aB (by omega),show 1080+((own.getD k 0:Nat):Int)*8=((1080+8*own.getD k 0:Nat):Int) by omega] at this
   have E0:Hid (∀z,az [] wr z->Calls prog 195 #[.pointer (some ⟨b,0,none⟩),.int .i64 ((1080+8*own.getD k 0:Nat):Int),.agg (aW (BW.getD k [])).toArray] z λe w'=>e= .returned (.tuple #[])/\Hid (Onto w5 b kX B (ps++(WU++sI BW own (k+1))) w')):=λz aa=>by
    have h1:=rf (ak.keep aa (by simp) (by simp)) (by simp only[aD,Cb,aU];omega) (1080+8*own.getD k 0) (by omega) (BW.getD k []) (Pd.out k ae);refine h1.mono ?_;rintro e w' ⟨he,h2⟩;refine⟨he,?_⟩;rw[ba,ba,<-zD] at h2;exact Onto.trans Pf J (Onto.mono aa (by omega) h2)
   rw[bG] at *;clear HP ak O5 WN qF ax bn bb Ob G7;generalize ((1080+8*own.getD k 0:Nat):Int)=bk at *;generalize ((own.getD k 0:Nat):Int)=x at *;generalize (aW (BW.getD k [])).toArray=RK at *;go_wp2_with fail;refine fw (l:=[_,_,_,_,_,_,_]) (o:=_) (S:=λz=>az [] wr z) (by kernel_rfl) rfl (by kernel_rfl) (λd _ _ _ _ h=>by cases d<;>exact h) ((az.refl _ _).drew) (by kernel_rfl) (by kernel_rfl) ?_;repeat (first
    |(refine aK.cons (.agg RK) (bc.load rfl 195 (.tmp 54) rfl _ rfl λz V=>p9.out z V) ?_;simp only[Act.put,ag,ah,ai])
    |(refine aK.cons (.int .i64 bk) (bc.call rfl 149 #[.int .i64 x] ?he ?h) ?_;(case he=>(intro wz;go_simp));(case h=>exact λz V=>(D8.out z).mono λe w' he=>⟨he.1,he.2▸V⟩);simp only[Act.put,ag,ah,ai])
    |(refine aK.cons ?_ (bc.val rfl ?h) ?_;(case h=>(intro z V;clear V;go_simp;rfl));simp only[Act.put,ag,ah,ai]))
   refine aK.done λz V=> ?_
   have qB:=au V;clear V;go_wp2_with fail;refine(E0.out _ qB.out).mono ?_;rintro e w' ⟨rfl,zV⟩;go_wp2_with fail;go_roundg gg;case measure=>omega
   case rel=>exact⟨k+1,by omega,by go_num,zV.out⟩
end Go.Proofs.YtepbpdipenedhaaGreatDoor

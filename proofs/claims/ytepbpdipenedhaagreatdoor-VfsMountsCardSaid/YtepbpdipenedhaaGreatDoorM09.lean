/- Lemmas. -/
import Derived.Test.YtepbpdipenedhaaGreatDoorM08
set_option maxHeartbeats 8000000
set_option maxRecDepth 100000
namespace Go.Proofs.YtepbpdipenedhaaGreatDoor
open Go.Proofs.Tryz
open Go.RowKit
variable{n:bT}{own:List Nat}{w:World}{p v:Value}{b g gp:Nat}{B:List Int}{ps:List (Int×Int)}
def pQ (X R:List Int) (n:bT) (own:List Nat):Prop:=
 (∀k,k<own.length->(gX n own).getD k []=dZ X (1080+8*own.getD k 0))/\od n own=R
theorem yh (J:cm n)(G:own.length=eW n):(gX n own).length=own.length:=by
 unfold gX;rcases J.2.2 with ⟨z,V⟩|⟨z,U⟩
 ·rw[aA,G,sy V,kz]
  by_cases h:(fu n.B).length<=6
  ·rw[aB h,aA];rfl
  ·rw[aA h,aB];rfl
 ·rw[aB z,o5,G,vD U]
theorem wK{k:Nat}(z:k<(gX n own).length):((gX n own).getD k []).length=8:=by
 unfold gX at *;by_cases G:n.K=2
 ·rw[aB G] at z ⊢
  rw[o5] at z;obtain⟨b,j,U,V,rfl⟩:=vh n.E z;rw[sx n.E own V U];exact XX (by rw[lf,nU];omega) _
 ·rw[aA G] at z ⊢
  unfold kz at *;have J:(fu n.B).length<=13:=mB n.B 13;by_cases h:(fu n.B).length<=6
  ·rw[aB h] at z;simp at z
  ·rw[aA h] at z ⊢
   obtain rfl:k=0:=by simpa using z
   simp;omega
theorem D4{Ls:List (List Int)}(h:pL w v g Ls){k:Nat}(U:k<Ls.length)(G:(Ls.getD k []).length=8):
  ∃off cap,v= .slice (some ⟨g,off,none⟩) Ls.length cap/\g<w.heap.size/\∀z,z.heap[g]? =w.heap[g]? ->(loadVar 195 ⟨g,off+k*8,none⟩).run prog z= .ok (.agg (aY (Ls.getD k [])).toArray) z:=by
 obtain⟨a,cap,h1,h2,h3,V⟩:=h;obtain⟨W,off,rfl,hc⟩:=V (by omega);refine⟨off,cap,h1,W,λz hx=>b7 g (off+k*8) (aY (Ls.getD k [])) underlying195 rfl (by rw[bB,G];exact jc) λj J=> ?_⟩;rw[bB,G] at J;rw[aO (w:=w) (a:=⟨g,off+k*8+j,none⟩) hx,hc k U j J,dO (by rw[G];exact J)]
theorem UK (QA:eK w b gp B ps)(n:bT)(v:Value)(g:Nat)(hB:n.B.length=13)(hR:cm n)(hE:bD w v g n.E)(vo:Value)(go:Nat)(own:List Nat)(hO:Reads w vo go (dK own))(ho:own.length=eW n)(wI:∀c∈own,c<256){R:List Int}(aQ:R.length=8):
  Calls prog 200 #[b,(aY R).toArray,aM n v,vo] w λe w'=>∃t:Bool,e= .returned (.bool t)/\(t=true↔pQ (az B ps) R n own)/\ay [] w w':=by
 obtain⟨ao,co,rfl,Nn,bb,SE⟩:=sX hO;obtain⟨W0,U⟩:∃W0,W0=(w.alloc (.cells (aY R).toArray 195)).alloc (.cells (aM n v) 111):=⟨_,rfl⟩;have rU:bh W0 w.heap.size (aY R).toArray 195 :=by
  rw[U];exact(bh.new w _ _).alloc _
 have tY:bh W0 (w.heap.size+1) (aM n v) 111 :=by
  have :=bh.new (w.alloc (.cells (aY R).toArray 195)) (aM n v) 111;have e:(w.alloc (.cells (aY R).toArray 195)).heap.size=w.heap.size+1:=by simp
  rw[e] at this;rw[U];exact this
 have cJ:ay [] w W0:=by
  rw[U];exact((ay.refl _ _).alloc _).alloc _
 obtain⟨uY,aL⟩:=hh2 (b9 tY hB) (SJ n v g hB hR (hE.keep cJ (by simp)) (.slice ao own.length co) go own (hO.keep cJ (by simp)) ho wI);have aN:=yh hR ho;have X5:Hid (∀k,k<own.length->((gX n own).getD k []).length=8):=λk hk=>wK (by omega)
 have aa:=Bt n own;have aT:=lj;have aX:own.length<=4001:=by
  rw[ho]
  have :=CF n (by rcases hR.2.2 with ⟨-,hf⟩|⟨-,hd⟩;·have :=hf.2.1;omega
                  ·have :=hd.1;omega) 4
  unfold eW;have h2:=hR.2.2;rcases h2 with ⟨-,hf⟩|⟨-,hd⟩
  ·have :=sy hf
   unfold eW at this;rw[this];split<;>omega
  ·have h3:=vD hd
   have PD:=hd.1;unfold eW at h3;rw[h3];have e0:=kG n.E 0;have e1:=kG n.E 1;have e2:=kG n.E 2;have e3:=kG n.E 3;simp only[fN,dN];omega
 have ak:Hid (∀t,(t=true↔pQ (az B ps) R n own)↔(t=true↔((∀k,k<own.length->(gX n own).getD k []=dZ (az B ps) (1080+8*own.getD k 0))/\od n own=R))):=λt=>Iff.rfl
 obtain⟨vZ,ru,fI,Ur⟩:=hh4 (QA.keep cJ (by simp) (by simp)) U cJ rU;have X6:Hid (∀k,k<own.length->own.getD k 0<256):=λk hk=>wI _ (by rw[aj,aD hk];exact bG hk)
 have Gm:=ar aQ;have aV:W0.heap.size=w.heap.size+1+1:=by rw[U];simp
 clear rU tY cJ U hE hO hR ho wI hB QA;generalize aJ:od n own=RW,aK:gX n own=BW,aM n v=Z,Gj:(aY R).toArray=ZR at *;have aB:=ar Gj;generalize wC:(aY (List.replicate 8 0)).toArray=Z8 at *;have xJ:=ar wC;clear aJ aK Gj wC;generalize hn:own.length=nn at *;have HN:=ar hn;clear hn;go_in;go_wp2_with((with_reducible show wpList _ _ _ (⟨_,.load 111 (.tmp 6),_,_,_,_⟩::_) _ _);rw[<-ru.out];refine gJ rfl 111 (.tmp 6) rfl _ rfl _ uY.out ?_);refine aL.out.mono ?_;rintro e w1 ⟨vb,gb,rfl,hb,hg,af⟩;obtain⟨w2,aG,EE,ac⟩:=bH (P:= prog) (ty:= 195) (cs:=aY RW) (by rw[bB,aa];exact jc) (bh.new w1 Z8 195) (by rw[<-xJ.out];simp[bB,aa]) (fh _);have aP:=af.size;have EI:=ar aG;have fx:Hid (ay [] W0 w2):=(af.alloc (.cells Z8 195)).trans ac (by intro x G;rw[au] at G;omega);have XW:=ar EE;have aC:Hid (pL w2 vb gb BW):=by
  obtain⟨a,cap,q1,q2,q3,q4⟩:=hb;refine pL.keep (l:=[w1.heap.size]) ⟨a,cap,q1,q2,q3,q4⟩ (((ay.refl [w1.heap.size] w1).alloc (.cells Z8 195)).trans' ac) λh0 hm=> ?_
  have :=(q4 h0).1;rw[au] at hm;omega
 clear aG EE ac af hb hg aP;generalize aZ:w1.heap.size=g9 at *;go_wp2_with(with_reducible refine gS 195 EI.out ?_);go_loopg [21] nn (λgh s21 z=>∃k:Nat,k+gh=nn/\s21= .int .i64 (k:Int)/\Hid ((∀j,j<k->BW.getD j []=dZ (az B ps) (1080+8*own.getD j 0))/\ay [] w2 z))
 case atStart=>exact⟨0,by omega,rfl,λj hj=>by omega,ay.refl _ _⟩
 case round=>
  obtain⟨k,hk,rfl,HP⟩:=hrel;obtain⟨J,W⟩:=HP.out;cases gk with
  |zero=>
   obtain rfl:k=nn:=by omega
   have aR:=ar (fM (XW.out.keep W (by simp)) aa);have Iz:Hid ((loadVar 195 w.heap.size).run prog wr= .ok (.agg ZR) wr):=by
    have :=(Ur.out.keep fx.out (by simp)).keep W (by simp);rw[<-aB.out] at this ⊢;exact fM this Gm.out
   have IL:=λz=>MR (a:=RW) (b:=R) aa Gm.out z
   have aI:=xX;rw[aB.out] at IL;obtain⟨t,ht⟩:∃t,decide (RW=R)=t:=⟨_,rfl⟩;rw[ht] at IL;have HF:Hid (∃t':Bool,Ending.returned (.bool t)=t'/\(t'=true↔pQ (az B ps) R n own)/\ay [] w wr):=by
    refine⟨t,rfl,(ak.out t).2 ?_,fI.out.trans' (fx.out.trans' W)⟩;rw[<-ht,decide_eq_true_iff];exact⟨λh=>⟨J,h⟩,λh=>h.2⟩
   have ba:=IL;clear J W HP ht IL;generalize (aY RW).toArray=ZW at *;go_wp2_with(with_reducible first|refine gL 195 aR.out ?_|refine gL 195 Iz.out ?_);go_ret;exact HF.out
  |succ gg=>
   have V:k<nn:=by omega
   have aS:(k:Int)<(nn:Int):=by omega
   have cJ:(0:Int)<=(k:Int):=by omega
   obtain⟨aF,Qt,rfl,ax⟩:=SE.out k V;have c0:=(aO (w:=w) (w':=wr) (a:=⟨go,Qt+k,none⟩) ((fI.out.trans' (fx.out.trans' W)).block go aF (by simp))).trans ax;have G:=X6.out k V;obtain⟨off,cap,rfl,av,ot⟩:=D4 aC.out (k:=k) (by omega) (X5.out k V);rw[aN] at *;have mY:Hid (∀z,ay [] wr z->(loadVar 195 ⟨gb,off+k*8,none⟩).run prog z= .ok (.agg (aY (BW.getD k [])).toArray) z):=λz zV=>ot z ((W.trans' zV).block gb av (by simp))
   obtain⟨x,ae⟩:∃x,x=own.getD k 0:=⟨_,rfl⟩;rw[<-ae] at G c0;have ou:=ar (λz=>ky (x:Int) z);have Bl:Hid (iO (x:Int)=((1080+8*x:Nat):Int)):=by
    show _=_;rw[iO,aA];omega
   rw[Bl.out] at ou;have nu:Hid (∀z,ay [] wr z->Calls prog 141 #[b,((1080+8*x:Nat):Int)] z λe w'=>e=(aY (dZ (az B ps) (1080+8*x))).toArray/\ay [] z w'):=λz zV=>
    pI (((vZ.out.keep fx.out (by simp) (by simp)).keep W (by simp) (by simp)).keep zV (by simp) (by simp)) (1080+8*x) (by omega)
   have IL:=λz=>MR (a:=BW.getD k []) (b:=dZ (az B ps) (1080+8*x)) (X5.out k V) (iG _ _) z
   have aI:=xX;obtain⟨t,ht⟩:∃t,decide (BW.getD k []=dZ (az B ps) (1080+8*x))=t:=⟨_,rfl⟩;rw[ht] at IL;obtain⟨EB,jA⟩:=hh2 J W;have HT:Hid (t=true↔BW.getD k []=dZ (az B ps) (1080+8*own.getD k 0)):=by
    show _↔_;rw[<-ht,decide_eq_true_iff,ae]
   have aW:=IL;clear J W HP ax aF av ot aC ht G ae Bl IL;generalize aH:((1080+8*x:Nat):Int)=px,Nr:(x:Int)=xi,(aY (BW.getD k [])).toArray=ZQ,(aY (dZ (az B ps) (1080+8*x))).toArray=ZP at *;clear aH Nr;cases t;all_goals
    go_wp2_with fail;refine jy (S:=λz=>ay [] wr z) ((ay.refl _ _).drew) ?_;repeat (
     (first
     |(refine aU.cons (.agg ZQ) (bR.load rfl 195 (.tmp 28) rfl _ rfl λz G=>mY.out z G) ?_)
     |(refine aU.cons (.int .i64 px) (bR.call rfl 149 #[xi] ?he ?h) ?_;(case he=>(intro wz;go_simp));(case h=>exact λz G=>(ou.out z).mono λe w' he=>⟨he.1,he.2▸G⟩))
     |(refine aU.cons (.agg ZP) (bR.call rfl 141 #[b,px] ?he ?h) ?_;(case he=>(intro wz;go_simp));(case h=>exact λz G=>(nu.out z G).mono λe w' he=>⟨he.1,G.trans' he.2⟩))
     |(refine aU.cons ?_ (bR.val rfl ?h) ?_;(case h=>(intro z G;clear G;go_simp;rfl))));simp only[Act.put,ag,ah,ai])
    refine aU.done λwz G=> ?_
    have EG:=ar G;clear G
   ·have HF:Hid (∃t':Bool,Ending.returned false= .returned t'/\(t'=true↔pQ (az B ps) R n own)/\ay [] w wz):=by
     refine⟨false,rfl,(ak.out false).2 ⟨λh=>(by cases h),λh=> ?_⟩,fI.out.trans' (fx.out.trans' (jA.out.trans' EG.out))⟩;have :=HT.out.2 (h.1 k V);cases this
    go_wp2_with fail;go_ret;exact HF.out
   ·have HN:Hid ((∀j,j<k+1->BW.getD j []=dZ (az B ps) (1080+8*own.getD j 0))/\ay [] w2 wz):=by
     refine⟨λj hj=> ?_,jA.out.trans' EG.out⟩;by_cases e:j=k
     ·subst e;exact HT.out.1 (by trivial)
     ·exact EB.out j (by omega)
    clear EB HT ak;go_wp2_with fail;go_roundg gg;case measure=>omega
    case rel=>exact⟨k+1,by omega,by go_num,HN.out⟩
theorem CO (n:bT)(own:List Nat):(od n own).getD 0 0=po n/\(od n own).getD 1 0=n.S:=by
 unfold od;split
 ·exact⟨rfl,rfl⟩
 ·unfold nr
  split<;>exact⟨rfl,rfl⟩
theorem Nu (l:List (ByteArray×Int))(j y:Nat)(W:y<7):(eQ (yU l j)).getD y 0=if 3*j+y/2<l.length/\y<6 then (if y%2=0 then ((kZ (bl (eX l (3*j+y/2))):Nat):Int) else jq l (3*j+y/2)) else 0:=by
 by_cases h:3*j+y/2<l.length/\y<6
 ·rw[aB h]
  have J:y/2<(yU l j).length:=by rw[nU];omega
  obtain⟨-,V,U⟩:=E0 l j (y/2) J;have G:=wE (yU l j) (y/2) J;rcases (show y%2=0\/y%2=1 by omega) with z|z
  ·rw[aB z,<-V,<-G.1,show y/2*2=y by omega]
  ·rw[aA,<-U,<-G.2,show y/2*2+1=y by omega]
 ·rw[aA h,aj,aP (by rw[lf,nU];omega)]
  rfl
theorem X7 (h:n.K=2){b:Nat}(z:b<4):(od n own).getD (2+b) 0=hdD n.E own b/\(od n own).getD 6 0=0/\(od n own).getD 7 0=0:=by
 unfold od;rw[aB h];refine⟨?_,rfl,rfl⟩;rcases (show b=0\/b=1\/b=2\/b=3 by omega) with rfl|rfl|rfl|rfl<;>rfl
def IW (i:Int) (n:bT):Prop:=(0<=i/\i<32)/\n.F=1/\cm n
instance (i:Int) (n:bT):Decidable (IW i n):=by unfold IW;infer_instance
theorem abp (i:Int)(n:bT)(v:Value)(g:Nat)(hB:n.B.length=13)(hE:bD w v g n.E)(hN:∀k,k<n.E.length->(eX n.E k).size<=9223372036854775807)(W:¬IW i n):
  Calls prog 172 #[p,i,aM n v] w λe w'=>e=(1:Int)/\ay [] w w':=by
 have Bu:Hid (∀U,ay [] w U->Calls prog 96 #[aM n v] U λe w'=>e=(decide (cm n))/\ay [] U w'):=λU hk=>oz n v g hB U (hE.keep hk (by simp)) hN
 have V:=gG v hB;have G:=bh.new w (aM n v) 111;obtain⟨HL,HI⟩:=hh2 (b9 G hB) (kC i);generalize aM n v=Z at *;have c0:(w.alloc (.cells Z 111)).cell? w.heap.size=some (.int .i64 n.F):=by rw[G.cell];exact V.f0
 have HK:Hid (ay [] w (w.alloc (.cells Z 111))):=(ay.refl [] w).alloc _;have j6:=ar W;clear G V hE hN hB W;by_cases hi:i<0\/32<=i
 ·have z:gF i= -1:=by unfold gF;rw[aB hi]
  rw[z] at HI;clear z;go_in;go_wp2_with fail;refine C' (HI.out _) ?_;go_wp2_with fail;go_ret;exact⟨rfl,HK.out⟩
 ·have z:gF i=((824+8*i.toNat:Nat):Int):=by unfold gF;rw[aA hi];omega
  rw[z] at HI;have aa:(0:Int)<=((824+8*i.toNat:Nat):Int):=by omega
  generalize ((824+8*i.toNat:Nat):Int)=q at *;clear z;by_cases hF:n.F=1
  ·have HQ:Hid (decide (cm n)=false):=aQ λh=>j6.out ⟨by omega,hF,h⟩
   rw[hF] at c0;rw[HQ.out] at Bu;go_in;go_wp2_with fail;refine C' (HI.out _) ?_;go_wp2_with((with_reducible show wpList _ _ _ (⟨_,.load 111 (.tmp 5),_,_,_,_⟩::_) _ _);refine eA (by simp[Region.wanted,yielded,aa]) 111 (.tmp 5) rfl _ rfl _ HL.out ?_);refine Rr (Bu.out _ HK.out) λw1 J=> ?_;have jK:=ar (HK.out.trans' J);clear J;go_wp2_with fail;go_ret;exact⟨rfl,jK.out⟩
  ·have ac:(n.F != 1)=true:=bne_iff_ne.2 hF
   generalize n.F=f at *;go_in;go_wp2_with fail;refine C' (HI.out _) ?_;go_wp2_with fail;go_ret;exact⟨rfl,HK.out⟩
theorem UL (h:eK w b gp B ps)(W:In64 (az B ps))(i:Int)(n:bT)(v:Value)(g:Nat)(V:n.B.length=13)(hE:bD w v g n.E)(hN:∀k,k<n.E.length->(eX n.E k).size<=9223372036854775807)
  (G:IW i n) (UM:(aZ (az B ps)).length<eY n):
  Calls prog 172 #[b,i,aM n v] w λe w'=>e=(7:Int)/\ay [] w w':=by
 have Bu:Hid (∀z,ay [] w z->Calls prog 96 #[aM n v] z λe w'=>e=true/\ay [] z w'):=λz hk=>by
  have :=oz n v g V z (hE.keep hk (by simp)) hN;rwa[bu G.2.2] at this
 have ag:=(jQ G.2.2).1;have Bv:Hid (∀z,Calls prog 194 #[aM n v] z λe w'=>e=((eY n:Nat):Int)/\ay [] z w'):=λz=>by
  obtain⟨a,cap,rfl,-⟩:=hE;exact Su n a cap V (by omega) z
 have JW:Hid (∀z,ay [] w z->Calls prog 151 #[b,((eY n:Nat):Int)] z λe w'=>e= .returned (.tuple #[(),(7:Int)])/\z=w'):=λz hk=>
  yg (h.keep hk (by simp) (by simp)) W (eY n) UM
 have ac:=gG v V;have J:=bh.new w (aM n v) 111;have HL:Hid (∀z,ay [] (w.alloc (.cells (aM n v) 111)) z->(loadVar 111 w.heap.size).run prog z= .ok (.agg (aM n v)) z):=λz hk=>b9 (J.keep hk (by simp)) V
 have HI:=ar (kC i);generalize aM n v=Z at *;have c0:(w.alloc (.cells Z 111)).cell? w.heap.size=some (.int .i64 1):=by rw[J.cell,<-G.2.1];exact ac.f0
 have HK:Hid (ay [] w (w.alloc (.cells Z 111))):=(ay.refl [] w).alloc _;have ae:gF i=((824+8*i.toNat:Nat):Int):=by unfold gF;rw[aA (by have :=G.1;omega)];have :=G.1;omega
 rw[ae] at HI;have af:(0:Int)<=((824+8*i.toNat:Nat):Int):=by omega
 generalize ((824+8*i.toNat:Nat):Int)=q at *;clear J ac hE hN V ae G h W UM;have IM:=ar (HL.out _ (ay.refl [] _));generalize ((eY n:Nat):Int)=nn at *;go_in;go_wp2_with fail;refine C' (HI.out _) ?_;go_wp2_with((with_reducible show wpList _ _ _ (⟨_,.load 111 (.tmp 5),_,_,_,_⟩::_) _ _);refine eA (by simp[Region.wanted,yielded,af]) 111 (.tmp 5) rfl _ rfl _ IM.out ?_);refine Rr (Bu.out _ HK.out) λw1 U=> ?_;obtain⟨jK,xw⟩:=hh2 (HK.out.trans' U) (HL.out _ U);clear U;go_wp2_with(with_reducible refine gL 111 xw.out ?_);refine Rr (Bv.out _) λw2 aa=> ?_;have fx:=ar (jK.out.trans' aa);clear aa;go_wp2_with fail;refine C' (JW.out _ fx.out) ?_;go_wp2_with fail;go_ret;exact⟨rfl,fx.out⟩
def w4 (ws:List Nat):Array Value:= #[.int .u64 ((ws.getD 0 0:Nat):Int),.int .u64 ((ws.getD 1 0:Nat):Int),.int .u64 ((ws.getD 2 0:Nat):Int),.int .u64 ((ws.getD 3 0:Nat):Int)]
theorem UN{l:List Nat}(h:Reads w v g (dK l)):∃a cap,v= .slice a l.length cap/\l.length<=cap/\cap<=maxLen/\
  Hid (∀k,k<l.length->g<w.heap.size/\∃off,a=some ⟨g,off,none⟩/\w.cell? ⟨g,off+k,none⟩=some (.int .i64 ((l.getD k 0:Nat):Int))):=by
 obtain⟨a,cap,G,h1,U,J⟩:=h;rw[fk] at *;refine⟨a,cap,G,h1,U,λk z=> ?_⟩;obtain⟨V,off,W,hc⟩:=J (by intro e;have :=cN List.length e;rw[fk,cC] at this;omega);exact⟨V,off,W,(hc k z).trans (nB z)⟩
theorem abq{P:Program}{ty e:TypeId}{off T:Nat}{Z:Array Value}(U:P.underlying ty=some (.slice e))(J:bh w g Z T)(z:Z[off]? =some v):(loadVar ty ⟨g,off,none⟩).run P w= .ok v w:=by
 have h:(isAgg ty).run P w= .ok false w:=by
  unfold isAgg;rw[ck,dA U w];rfl
 have G:w.cell? ⟨g,off,none⟩=some v:=by rw[J.cell,z]
 simp[loadVar,h,G]
theorem adT (h:eK w b gp B ps)(bt:In64 (az B ps))(hT:lD w)(Ew:gp<w.heap.size)(bo:ps.length<=800000)(i:Int)(n:bT)(v:Value)(g:Nat)(hB:n.B.length=13)(hE:bD w v g n.E)
  (hN:∀k,k<n.E.length->(eX n.E k).size<=9223372036854775807) (ac:IW i n) (bq:n.E.length≠0->g≠b/\g≠gp) (hn:eY n<=(aZ (az B ps)).length):
  Calls prog 172 #[b,i,aM n v] w λe w'=>e=(0:Int)/\Onto w b gp B (ps++pO (az B ps) i.toNat n ((aZ (az B ps)).take (eY n))) w':=by
 have Bu:Hid (∀z,ay [] w z->Calls prog 96 #[aM n v] z λe w'=>e=true/\ay [] z w'):=λz hk=>by
  have :=oz n v g hB z (hE.keep hk (by simp)) hN;rwa[bu ac.2.2] at this
 have cm:=jQ ac.2.2;have Bv:Hid (∀z,Calls prog 194 #[aM n v] z λe w'=>e=((eY n:Nat):Int)/\ay [] z w'):=λz=>by
  obtain⟨a,cap,rfl,-⟩:=hE;exact Su n a cap hB (by omega) z
 have bl:Hid (∀z,Calls prog 192 #[aM n v] z λe w'=>e=((bp n.E.length:Nat):Int)/\ay [] z w'):=λz=>by
  obtain⟨a,cap,rfl,-⟩:=hE;exact sU n a cap hB (by omega) z
 have bB:=Ct (az B ps);have JW:Hid (∀z,ay [] w z->Calls prog 151 #[b,((eY n:Nat):Int)] z (Br z b gp B ps ((aZ (az B ps)).take (eY n)))):=λz hk=>
  CM (h.keep hk (by simp) (by simp)) bt (hT.keep hk) (bS Ew hk.size) (by omega) (eY n) hn
 have EW:Hid (∀c∈(aZ (az B ps)).take (eY n),c≠0/\c<256):=λc hc=>by
  have :=kx.1 (bO hc);exact⟨this.2.1,this.1⟩
 have aH:((aZ (az B ps)).take (eY n)).length=eY n:=by rw[aJ,cQ hn]
 have cE:bp n.E.length<=eY n/\eY n<=bp n.E.length+1:=by unfold eY;split<;>omega
 have bf:=gG v hB;have aO:=bh.new w (aM n v) 111;have ct:=h.raw.lt;obtain⟨HI,cn,cg,HR,HB⟩:=hh5 (kC i) (uq ac.2.2) (Ns ac.2.2 hN) ac.2.2 hB;have b7:Hid (∀(l:List Int) (aa:Int),l.length=13->adw l->0<=aa/\aa<9223372036854775808->∀z,Calls prog 193 #[aM n v,(zs l).toArray,(aa:Int)] z λe w'=>e=(aY (iq n l aa)).toArray/\ay [] z w'):=λl aa hl bP h0 z=>DU n v hB cn.out l hl bP aa h0 z
 have sf:Hid (∀z,bh z w.heap.size (aM n v) 111->(loadVar 111 w.heap.size).run prog z= .ok (.agg (aM n v)) z/\(loadVar 109 ⟨w.heap.size,4,none⟩).run prog z= .ok (.agg (zs n.B).toArray) z):=λz hb=>⟨b9 hb hB,adS hb hB⟩
 have IX:Hid (pO (az B ps) i.toNat n ((aZ (az B ps)).take (eY n))=dh (az B ps) ((aZ (az B ps)).take (eY n))++wJ i.toNat n ((aZ (az B ps)).take (eY n))):=rfl;have CE:Hid ((dh (az B ps) ((aZ (az B ps)).take (eY n))).length=9*eY n):=by
  show _=_;rw[qj _ _ EW.out,aH]
 generalize bV:(aZ (az B ps)).take (eY n)=own at *;generalize pO (az B ps) i.toNat n own=aT,X8:dh (az B ps) own=X9 at *;have b6:=ar X8;clear X8;have bv:gF i=((824+8*i.toNat:Nat):Int):=by unfold gF;rw[aA (by have :=ac.1;omega)];have :=ac.1;omega
 rw[bv] at HI;have jG:i.toNat<32:=by have :=ac.1;omega
 have c0:(w.alloc (.cells (aM n v) 111)).cell? w.heap.size=some (.int .i64 1):=by rw[aO.cell,<-ac.2.1];exact bf.f0
 generalize hZ:aM n v=Z at *;have cj:Z[17]? =some v:=bf.f5;have HK:Hid (ay [] w (w.alloc (.cells Z 111))):=(ay.refl [] w).alloc _;obtain⟨qa,HE,HS,zM⟩:=hh4 aO hE h bo;have IM:=ar (sf.out _ aO).1;generalize hq:824+8*i.toNat=q at *;have HQ:Hid (q=824+8*i.toNat):=hq.symm;have SK:q+8<=3128:=by omega
 clear hq jG;have bE:(0:Int)<=(q:Int):=by omega
 clear aO bf hE hN hB bv h bt hT bB hn bV bo;go_in;go_wp2_with fail;refine C' (HI.out _) ?_;go_wp2_with((with_reducible show wpList _ _ _ (⟨_,.load 111 (.tmp 5),_,_,_,_⟩::_) _ _);refine eA (by simp[Region.wanted,yielded,bE]) 111 (.tmp 5) rfl _ rfl _ IM.out ?_);refine Rr (Bu.out _ HK.out) λw1 aS=> ?_;obtain⟨jK,zN⟩:=hh2 (HK.out.trans' aS) (qa.out.keep aS (by simp));have xw:=ar (sf.out _ zN.out).1;clear aS IM qa HK;go_wp2_with(with_reducible refine gL 111 xw.out ?_);refine Rr (Bv.out _) λw2 V=> ?_;obtain⟨fx,oQ⟩:=hh2 (jK.out.trans' V) (zN.out.keep V (by simp));clear V jK zN xw Bv Bu;go_wp2_with fail;refine(JW.out _ fx.out).mono ?_;rintro e w3 ⟨vo,go,rfl,bg,cI,Ya,kX,cG,cv,aR,aG⟩;rw[b6.out] at aR;have bn:=fx.out.size;have cD:=oQ.out.lt;have qI:=ar (oQ.out.keep aG (by simp only[aL,aK,bC];omega));have xq:Hid (bD w3 v g n.E):=(HE.out.keep fx.out (by simp)).keep aG (λbL=>by have :=bq bL;simp only[aL,aK,bC];omega);have oI:Hid (ay [b,gp] w w3):=(fx.out.mono (by simp)).trans' aG;obtain⟨py,Qu⟩:=hh2 aR bg;have vE:=ar (sf.out _ qI.out).1;have cx:=aG.size;obtain⟨a,oc,rfl,SL,Mm,-⟩:=bg;have bK:Hid ((dK own).length=eY n):=by show _=_;rw[fk,aH]
 rw[bK.out] at SL Qu ⊢;have UO:Hid (n.E.length≠0->g∉[b,kX]):=λh0 hm=>by
  have h1:=bq h0;have h2:g<w.heap.size:=by
   rcases dE g w.heap.size with h|h
   ·exact h
   ·exact absurd (au.2 rfl) (HE.out.apart (l:=[g]) (λx G=>by rw[au] at G;omega) h0)
  simp only[aL,aK,bC] at hm;rcases hm with rfl|rfl
  ·exact h1.1 rfl
  ·omega
 clear JW fx oQ HE HS aG aR;have WR:=pD;go_wp2_with(with_reducible refine gL 111 vE.out ?_);refine Rr (bl.out _) λw4 ae=> ?_;obtain⟨CQ,Gw,qb,tZ,bb⟩:=hh5 (qI.out.keep ae (by simp)) (xq.out.keep ae (by simp)) (oI.out.trans' (ae.mono (by simp))) (py.out.keep ae (by simp) (by simp)) (Qu.out.keep ae (by simp));have cH:=ae.size;have bw:=ar (sf.out _ CQ.out).2;have Yb:=bh.new w4 (zs (List.replicate 13 0)).toArray 109;obtain⟨w5,Gl,rU,kR⟩:=bH (P:= prog) (ty:= 109) (cs:=zs n.B) (by rw[eO,HB.out];exact mb) Yb (by simp[eO,HB.out]) (nC _);have EF:=ar Gl;have rF:ay [] w4 w5.drew:=(((ay.refl [] w4).alloc _).trans kR (by intro x G;rw[au] at G;omega)).drew;have ba:=bb.out.keep rF (by simp);rw[<-aH] at ba;obtain⟨vc,w6,zS,tY,jW⟩:=UG (n:=13) (cap:=13) (m:=bp n.E.length) (mc:=oc) rU.drew ba (by omega) (by rw[HB.out];omega) (by omega);have bz:=ar zS;have IY:ay [] w4 w6:=rF.trans jW (by intro x G;rw[au] at G;omega);obtain⟨SD,bF,tX,Gx,cf⟩:=hh5 (CQ.out.keep IY (by simp)) (Gw.out.keep IY (by simp)) (qb.out.trans' (IY.mono (by simp))) (tZ.out.keep IY (by simp) (by simp)) (bb.out.keep IY (by simp));have aX:bh w6 w4.heap.size (zs (dX n own)).toArray 109 :=tY;have bW:=ar aX;have cC:=IY.size;have cw:=aX.lt;have bY:=UH w4.heap.size;have bX:=Qz a (eY n) oc (bp n.E.length) (by omega);obtain⟨Ex,X6⟩:=hh2 (vB (own:=own) HB.out (by omega) (by omega)) (CN HR.out HB.out (by omega) EW.out);have uY:Hid (bp n.E.length<own.length->fo n own=own.getD (bp n.E.length) 0/\qx n own=jT (1080+8*fo n own) ((dX n own).drop 5) 8):=λhc=>by
  refine⟨by unfold fo;rw[aB hc],by unfold qx;rw[aB hc]⟩
 have Ll:Hid (¬bp n.E.length<own.length->fo n own=0/\qx n own=[]):=λhc=>by
  refine⟨by unfold fo;rw[aA hc],by unfold qx;rw[aA hc]⟩
 have bN:Hid (aT=X9++(tj n.E (dX n own) (bp n.E.length)++(qx n own++jT q (iq n (dX n own) ((fo n own:Nat):Int)) 8))):=by
  have h1:=IX.out;unfold wJ at h1;rw[<-HQ.out] at h1;exact h1
 have JO:Hid (∀k,k<bp n.E.length->4*k<n.E.length):=λk hk=>by unfold bp at hk;omega
 have aW:=CE.out;have cz:=zM.out;clear Gl rU kR rF zS tY jW IY aX Yb IX bl vE oI py xq qI Qu qb tZ Gw CQ bb ba ae;generalize zE:bp n.E.length=W,(zs n.B).toArray=ZB,(zs (List.replicate 13 0)).toArray=ZN at *;go_wp2_with(with_reducible first|refine gL 109 bw.out ?_|refine gS 109 EF.out ?_);refine j4 (l:=[_,_,_,_]) (S:=λz=>z=w5.drew) rfl rfl ?_;repeat (refine aU.cons ?_ (bR.val rfl ?h) ?_;(case h=>(intro z G;go_simp;rfl));simp only[Act.put,ag,ah,ai])
 refine aU.done λz G=> ?_
 subst G;refine jw rfl (.tmp 40) (.tmp 43) 141 141 rfl _ _ rfl rfl (bz.out _) ?_;clear bY bX EF bw bz WR;have bI:Hid (kX=gp\/(w.heap.size<=kX/\kX<w6.heap.size)):=by show _\/_;omega
 have cu:b<w.heap.size/\w.heap.size<w4.heap.size/\kX<w6.heap.size/\kX≠w.heap.size/\kX≠w4.heap.size/\go<w4.heap.size/\w.heap.size<=go:=by omega
 have cy:go<w6.heap.size:=by omega
 generalize w4.heap.size=lb at *;have HX:Hid (∀z,ay [b,kX] w6 z->bh z w.heap.size Z 111/\bD z v g n.E/\Reads z (.slice a (eY n) oc) go (dK own)/\bh z lb (zs (dX n own)).toArray 109):=λz hk=>by
  refine⟨SD.out.keep hk ?_,bF.out.keep hk UO.out,cf.out.keep hk ?_,bW.out.keep hk ?_⟩
  ·simp only[aL,aK,bC];omega
  ·simp only[aL,aK,bC];omega
  ·simp only[aL,aK,bC];omega
 have bA:Hid (Onto w6 b kX B (ps++(X9++tj n.E (dX n own) 0)) w6):=by
  show Onto _ _ _ _ _ _;rw[show tj n.E (dX n own) 0=[] from rfl,br];exact Onto.refl Gx.out
 have cA:Hid (W<=6):=cm.2.1;have HF:Hid (∀(x:Int),x=((fo n own:Nat):Int)->∀wy,Onto w6 b kX B (ps++(X9++(tj n.E (dX n own) W++qx n own))) wy->∀z,ay [] wy z->
   (loadVar 111 w.heap.size).run prog z= .ok (.agg Z) z/\(loadVar 109 lb).run prog z= .ok (.agg (zs (dX n own)).toArray) z/\
   Calls prog 193 #[Z,(zs (dX n own)).toArray,(x:Int)] z (λe w'=>e=(aY (iq n (dX n own) x)).toArray/\ay [] z w')/\
   Calls prog 195 #[b,(q:Int),(aY (iq n (dX n own) x)).toArray] z (λe w'=>e= .returned (.tuple #[])/\Hid (Onto w b gp B (ps++aT) w'))):=by
  rintro x rfl wy ⟨lS,QB,af,V⟩ z hk;obtain⟨ax,-,-,ak⟩:=HX.out _ V;have su:fo n own<256:=by
   by_cases hc:W<own.length
   ·have h1:=EW.out (own.getD W 0) (by rw[aj,aD hc];exact bG _)
    rw[(uY.out hc).1];exact h1.2
   ·rw[(Ll.out hc).1];omega
  have av:(qx n own).length<=8:=by
   by_cases hc:W<own.length
   ·rw[(uY.out hc).2,oY];omega
   ·rw[(Ll.out hc).2];simp
  have Qk:=ax.keep hk (by simp);have bZ:=ak.keep hk (by simp);have cp:(iq n (dX n own) ((fo n own:Nat):Int)).length=8:=by simp[iq,Ex.out]
  refine⟨(sf.out _ Qk).1,fA (off:=0) bZ Ex.out (λk hk=>by rw[bc,aF,gK (by rw[Ex.out];exact hk)]),b7.out _ _ Ex.out (λk=>by have :=X6.out k;omega) (by omega) z,?_⟩;have h1:=sk (af.keep hk (by simp) (by simp)) (by simp only[aC,yX,aW];omega) q (by omega) (iq n (dX n own) ((fo n own:Nat):Int)) cp;refine h1.mono ?_;rintro e w' ⟨J,h2⟩;refine⟨J,?_⟩;have e1:ps++(X9++(tj n.E (dX n own) W++qx n own))++jT q (iq n (dX n own) ((fo n own:Nat):Int)) 8=ps++aT:=by rw[bN.out];simp only[aV]
  rw[e1] at h2;have bn:=V.size;exact Onto.trans bI.out tX.out (Onto.trans QB V (Onto.mono hk (by omega) h2))
 go_wp2_with fail;go_loopg [46] W (λgh s46 z=>∃k:Nat,k+gh=W/\s46= .int .i64 (k:Int)/\Hid (Onto w6 b kX B (ps++(X9++tj n.E (dX n own) k)) z))
 case atStart=>exact⟨0,by omega,rfl,bA.out⟩
 case round=>
  clear bA;obtain⟨k,hk,rfl,HP⟩:=hrel;obtain⟨lS,QB,af,V⟩:=HP.out;obtain⟨ax,aN,aP,ak⟩:=HX.out _ V;have bn:=V.size;cases gk with
  |zero=>
   obtain rfl:k=W:=by omega
   by_cases hc:k<own.length
   ·obtain⟨su,av⟩:=uY.out hc
    obtain⟨off,bj,cd⟩:∃off,a=some ⟨go,off,none⟩/\wr.cell? ⟨go,off+k,none⟩=some (.int .i64 ((fo n own:Nat):Int)):=by
     obtain⟨a',cr,J,-,-,HC⟩:=UN aP
     injection J with h1 h2 h3
     subst h1;obtain⟨-,off,ho,ck⟩:=HC.out k hc;exact⟨off,ho,by rw[ck,su]⟩
    have cB:fo n own<256:=by
     have h1:=EW.out (own.getD k 0) (by rw[aj,aD hc];exact bG _);rw[su];exact h1.2
    have mY:Hid (∀z,ay [] wr z->(loadVar 109 lb).run prog z= .ok (.agg (zs (dX n own)).toArray) z):=λz U=>
     fA (off:=0) (ak.keep U (by simp)) Ex.out (λk hk=>by rw[bc,aF,gK (by rw[Ex.out];exact hk)])
    have DX:Hid (∀z,Calls prog 149 #[((fo n own:Nat):Int)] z λe w'=>e=((1080+8*fo n own:Nat):Int)/\z=w'):=λz=>by
     have :=ky ((fo n own:Nat):Int) z;rwa[iO,aA,show 1080+((fo n own:Nat):Int)*8=((1080+8*fo n own:Nat):Int) by omega] at this
    have SC:Hid (∀z,Calls prog 197 #[(zs (dX n own)).toArray] z λe w'=>e=(aY ((dX n own).drop 5)).toArray/\ay [] z w'):=λz=>Qi _ Ex.out (λk=>by have :=X6.out k;omega) z
    have Ga:Hid (∀z,ay [] wr z->Calls prog 195 #[b,((1080+8*fo n own:Nat):Int),(aY ((dX n own).drop 5)).toArray] z λe w'=>e= .returned (.tuple #[])/\Onto w6 b kX B (ps++(X9++(tj n.E (dX n own) k++qx n own))) w'):=λz U=>by
     have h1:=sk (af.keep U (by simp) (by simp)) (by simp only[aC,yX,aW];omega) (1080+8*fo n own) (by omega) ((dX n own).drop 5) (by rw[bM,Ex.out]);refine h1.mono ?_;rintro e w' ⟨J,h2⟩;refine⟨J,?_⟩;rw[aV,aV,<-av] at h2;exact Onto.trans QB V (Onto.mono U (by omega) h2)
    have bJ:(k:Int)<((eY n:Nat):Int):=by omega
    have cJ:(0:Int)<=(k:Int):=by omega
    subst bj;have HF:=ar (HF.out ((fo n own:Nat):Int) rfl);clear HP af ax aN aP ak uY Ll su av HX;generalize (aY (iq n (dX n own) ((fo n own:Nat):Int))).toArray=ZR,(aY ((dX n own).drop 5)).toArray=ZD,(zs (dX n own)).toArray=ZL,((1080+8*fo n own:Nat):Int)=bk at *;generalize ((fo n own:Nat):Int)=li at *;go_wp2_with fail;refine j4 (l:=[_,_,_,_,_]) (S:=λz=>ay [] wr z) rfl ((ay.refl _ _).drew) ?_;repeat (
     (first
     |(refine aU.cons (.agg ZL) (bR.load rfl 109 (.tmp 10) rfl _ rfl λz G=>mY.out z G) ?_)
     |(refine aU.cons (.int .i64 bk) (bR.call rfl 149 #[li] ?J ?h) ?_;(case J=>(intro wz;go_simp));(case h=>exact λz G=>(DX.out z).mono λe w' J=>⟨J.1,J.2▸G⟩))
     |(refine aU.cons (.agg ZD) (bR.call rfl 197 #[ZL] ?J ?h) ?_;(case J=>(intro wz;go_simp));(case h=>exact λz G=>(SC.out z).mono λe w' J=>⟨J.1,G.trans' J.2⟩))
     |(refine aU.cons ?_ (bR.val rfl ?h) ?_;(case h=>(intro z G;clear G;go_simp;rfl))));simp only[Act.put,ag,ah,ai])
    refine aU.done λz G=> ?_
    have um:=ar G;clear G;go_wp2_with fail;refine Rr (Ga.out _ um.out) λw7 rq=> ?_;have aI:=ar (HF.out w7 rq);clear HF rq um Ga SC mY DX;go_wp2_with fail;refine j4 (l:=[_,_,_,_,_,_,_]) (S:=λz=>ay [] w7 z) rfl ((ay.refl _ _).drew) ?_;repeat (
     (first
     |(refine aU.cons (.agg Z) (bR.load rfl 111 (.tmp 5) rfl _ rfl λz G=>(aI.out z G).1) ?_)
     |(refine aU.cons (.agg ZL) (bR.load rfl 109 (.tmp 10) rfl _ rfl λz G=>(aI.out z G).2.1) ?_)
     |(refine aU.cons (.int .i64 (q:Int)) (bR.call rfl 137 #[i] ?J ?h) ?_;(case J=>(intro wz;go_simp));(case h=>exact λz G=>(HI.out z).mono λe w' J=>⟨J.1,J.2▸G⟩))
     |(refine aU.cons (.agg ZR) (bR.call rfl 193 #[Z,ZL,li] ?J ?h) ?_;(case J=>(intro wz;go_simp));(case h=>exact λz G=>(aI.out z G).2.2.1.mono λe w' J=>⟨J.1,G.trans' J.2⟩))
     |(refine aU.cons ?_ (bR.val rfl ?h) ?_;(case h=>(intro z G;clear G;go_simp;rfl))));simp only[Act.put,ag,ah,ai])
    refine aU.done λz G=> ?_
    have um:=ar G;clear G;go_wp2_with fail;refine(aI.out _ um.out).2.2.2.mono ?_;rintro e w' ⟨rfl,rq⟩;go_wp2_with fail;go_ret;exact⟨rfl,rq.out⟩
   ·obtain⟨su,av⟩:=Ll.out hc
    have aQ:=ar (HF.out 0 (by rw[su];rfl) wr (by rw[av,br];exact HP.out));have cF:¬(k:Int)<((eY n:Nat):Int):=by omega
    clear HF HP af ax aN aP ak uY Ll su av HX;generalize (aY (iq n (dX n own) 0)).toArray=ZR,(zs (dX n own)).toArray=ZL at *;go_wp2_with fail;refine j4 (l:=[_,_,_,_,_,_,_]) (S:=λz=>ay [] wr z) rfl ((ay.refl _ _).drew) ?_;repeat (
     (first
     |(refine aU.cons (.agg Z) (bR.load rfl 111 (.tmp 5) rfl _ rfl λz G=>(aQ.out z G).1) ?_)
     |(refine aU.cons (.agg ZL) (bR.load rfl 109 (.tmp 10) rfl _ rfl λz G=>(aQ.out z G).2.1) ?_)
     |(refine aU.cons (.int .i64 (q:Int)) (bR.call rfl 137 #[i] ?J ?h) ?_;(case J=>(intro wz;go_simp));(case h=>exact λz G=>(HI.out z).mono λe w' J=>⟨J.1,J.2▸G⟩))
     |(refine aU.cons (.agg ZR) (bR.call rfl 193 #[Z,ZL,(0:Int)] ?J ?h) ?_;(case J=>(intro wz;go_simp));(case h=>exact λz G=>(aQ.out z G).2.2.1.mono λe w' J=>⟨J.1,G.trans' J.2⟩))
     |(refine aU.cons ?_ (bR.val rfl ?h) ?_;(case h=>(intro z G;clear G;go_simp;rfl))));simp only[Act.put,ag,ah,ai])
    refine aU.done λz G=> ?_
    have um:=ar G;clear G;go_wp2_with fail;refine(aQ.out _ um.out).2.2.2.mono ?_;rintro e w' ⟨rfl,rq⟩;go_wp2_with fail;go_ret;exact⟨rfl,rq.out⟩
  |succ gg=>
   have bQ:k<W:=by omega
   have bJ:(k:Int)<(W:Int):=by omega
   have cJ:(0:Int)<=(k:Int):=by omega
   have mn:(k:Int)<13:=by omega
   have SB:=X6.out k;have bU:Hid (∀z,ay [] wr z->(loadVar 3 ⟨lb,k,none⟩).run prog z= .ok (.int .i64 ((dX n own).getD k 0)) z):=λz U=>FW (off:=k) underlying3 (ak.keep U (by simp)) (by rw[aF,gK (by rw[Ex.out];omega)])
   have b8:Hid (∀z,ay [] wr z->(loadVar 32 ⟨w.heap.size,17,none⟩).run prog z= .ok v z):=λz U=>abq (off:=17) underlying32 (ax.keep U (by simp)) cj
   have DX:Hid (∀z,Calls prog 149 #[((dX n own).getD k 0:Int)] z λe w'=>e=((1080+8*((dX n own).getD k 0).toNat:Nat):Int)/\z=w'):=λz=>by
    have :=ky ((dX n own).getD k 0) z;rwa[iO,aA,show 1080+(dX n own).getD k 0*8=((1080+8*((dX n own).getD k 0).toNat:Nat):Int) by omega] at this
   have ry:Hid (∀z,ay [] wr z->Calls prog 196 #[v,(k:Int)] z λe w'=>e=(aY (jn n.E k)).toArray/\ay [] z w'):=λz U=>DW (aN.keep U (by simp)) cg.out k (JO.out k bQ)
   have Ga:Hid (∀z,ay [] wr z->Calls prog 195 #[b,((1080+8*((dX n own).getD k 0).toNat:Nat):Int),(aY (jn n.E k)).toArray] z λe w'=>e= .returned (.tuple #[])/\Hid (Onto w6 b kX B (ps++(X9++tj n.E (dX n own) (k+1))) w')):=λz U=>by
    have h1:=sk (af.keep U (by simp) (by simp)) (by simp only[aC,yX,aW];omega) (1080+8*((dX n own).getD k 0).toNat) (by omega) (jn n.E k) (mW _ _ _);refine h1.mono ?_;rintro e w' ⟨J,h2⟩;refine⟨J,?_⟩;rw[aV,aV,<-Aq] at h2;exact Onto.trans QB V (Onto.mono U (by omega) h2)
   clear HP af ax aN aP ak HX HF uY Ll SB;generalize ((1080+8*((dX n own).getD k 0).toNat:Nat):Int)=bk at *;generalize (dX n own).getD k 0=x,(aY (jn n.E k)).toArray=RW at *;go_wp2_with fail;refine j4 (l:=[_,_,_,_,_,_,_,_,_]) (S:=λz=>ay [] wr z) rfl ((ay.refl _ _).drew) ?_;repeat (
    (first
    |(refine aU.cons (.int .i64 x) (bR.load rfl 3 (.tmp 51) rfl _ rfl λz G=>bU.out z G) ?_)
    |(refine aU.cons v (bR.load rfl 32 (.tmp 54) rfl _ rfl λz G=>b8.out z G) ?_)
    |(refine aU.cons (.int .i64 bk) (bR.call rfl 149 #[(x:Int)] ?J ?h) ?_;(case J=>(intro wz;go_simp));(case h=>exact λz G=>(DX.out z).mono λe w' J=>⟨J.1,J.2▸G⟩))
    |(refine aU.cons (.agg RW) (bR.call rfl 196 #[v,(k:Int)] ?J ?h) ?_;(case J=>(intro wz;go_simp));(case h=>exact λz G=>(ry.out z G).mono λe w' J=>⟨J.1,G.trans' J.2⟩))
    |(refine aU.cons ?_ (bR.val rfl ?h) ?_;(case h=>(intro z G;clear G;go_simp;rfl))));simp only[Act.put,ag,ah,ai])
   refine aU.done λz G=> ?_
   have um:=ar G;clear G;go_wp2_with fail;refine Rr (Ga.out _ um.out) λw' rq=> ?_;go_wp2_with fail;go_roundg gg;case measure=>omega
   case rel=>exact⟨k+1,by omega,by go_num,rq.out⟩
def yj (i:Int) (n:bT):Prop:=(0<=i/\i<32)/\n.F=2/\cm n
instance (i:Int) (n:bT):Decidable (yj i n):=by unfold yj;infer_instance
theorem Yc (i:Int)(n:bT)(v:Value)(g:Nat)(hB:n.B.length=13)(hE:bD w v g n.E)(hN:∀k,k<n.E.length->(eX n.E k).size<=9223372036854775807)(W:¬yj i n):
  Calls prog 174 #[p,i,aM n v] w λe w'=>e=(1:Int)/\ay [] w w':=by
 have Bu:Hid (∀U,ay [] w U->Calls prog 96 #[aM n v] U λe w'=>e=(decide (cm n))/\ay [] U w'):=λU hk=>oz n v g hB U (hE.keep hk (by simp)) hN
 have V:=gG v hB;have G:=bh.new w (aM n v) 111;obtain⟨HL,HI⟩:=hh2 (b9 G hB) (kC i);generalize aM n v=Z at *;have c0:(w.alloc (.cells Z 111)).cell? w.heap.size=some (.int .i64 n.F):=by rw[G.cell];exact V.f0
 have HK:Hid (ay [] w (w.alloc (.cells Z 111))):=(ay.refl [] w).alloc _;have j6:=ar W;clear G V hE hN hB W;by_cases hi:i<0\/32<=i
 ·have z:gF i= -1:=by unfold gF;rw[aB hi]
  rw[z] at HI;clear z;go_in;go_wp2_with fail;refine C' (HI.out _) ?_;go_wp2_with fail;go_ret;exact⟨rfl,HK.out⟩
 ·have z:gF i=((824+8*i.toNat:Nat):Int):=by unfold gF;rw[aA hi];omega
  rw[z] at HI;have aa:(0:Int)<=((824+8*i.toNat:Nat):Int):=by omega
  generalize ((824+8*i.toNat:Nat):Int)=q at *;clear z;by_cases hF:n.F=2
  ·have HQ:Hid (decide (cm n)=false):=aQ λh=>j6.out ⟨by omega,hF,h⟩
   rw[hF] at c0;rw[HQ.out] at Bu;go_in;go_wp2_with fail;refine C' (HI.out _) ?_;go_wp2_with((with_reducible show wpList _ _ _ (⟨_,.load 111 (.tmp 5),_,_,_,_⟩::_) _ _);refine eA (by simp[Region.wanted,yielded,aa]) 111 (.tmp 5) rfl _ rfl _ HL.out ?_);refine Rr (Bu.out _ HK.out) λw1 J=> ?_;have jK:=ar (HK.out.trans' J);clear J;go_wp2_with fail;go_ret;exact⟨rfl,jK.out⟩
  ·have ac:(n.F != 2)=true:=bne_iff_ne.2 hF
   generalize n.F=f at *;go_in;go_wp2_with fail;refine C' (HI.out _) ?_;go_wp2_with fail;go_ret;exact⟨rfl,HK.out⟩
theorem QC (h:eK w b gp B ps)(aa:In64 (az B ps))(i:Int)(n:bT)(v:Value)(g:Nat)(W:n.B.length=13)(hE:bD w v g n.E)(hN:∀k,k<n.E.length->(eX n.E k).size<=9223372036854775807)
  (G:yj i n) (UM:(aZ (az B ps)).length<eW n):
  Calls prog 174 #[b,i,aM n v] w λe w'=>e=(7:Int)/\ay [] w w':=by
 have Bu:Hid (∀z,ay [] w z->Calls prog 96 #[aM n v] z λe w'=>e=true/\ay [] z w'):=λz U=>by
  have :=oz n v g W z (hE.keep U (by simp)) hN;rwa[bu G.2.2] at this
 have ah:=(jQ G.2.2).1;have Bv:Hid (∀z,ay [] w z->Calls prog 199 #[aM n v] z λe w'=>e=((eW n:Nat):Int)/\ay [] z w'):=λz U=>by
  have :=Gd n v g W z (hE.keep U (by simp)) (by omega) hN;rwa[aB G.2.2] at this
 have JW:Hid (∀z,ay [] w z->Calls prog 151 #[b,((eW n:Nat):Int)] z λe w'=>e= .returned (.tuple #[(),(7:Int)])/\z=w'):=λz U=>
  yg (h.keep U (by simp) (by simp)) aa (eW n) UM
 have ae:=gG v W;have J:=bh.new w (aM n v) 111;have HL:Hid (∀z,ay [] (w.alloc (.cells (aM n v) 111)) z->(loadVar 111 w.heap.size).run prog z= .ok (.agg (aM n v)) z):=λz U=>b9 (J.keep U (by simp)) W
 have HI:=ar (kC i);generalize aM n v=Z at *;have c0:(w.alloc (.cells Z 111)).cell? w.heap.size=some (.int .i64 2):=by rw[J.cell,<-G.2.1];exact ae.f0
 have HK:Hid (ay [] w (w.alloc (.cells Z 111))):=(ay.refl [] w).alloc _;have af:gF i=((824+8*i.toNat:Nat):Int):=by unfold gF;rw[aA (by have :=G.1;omega)];have :=G.1;omega
 rw[af] at HI;have ag:(0:Int)<=((824+8*i.toNat:Nat):Int):=by omega
 generalize ((824+8*i.toNat:Nat):Int)=q at *;clear J ae hE hN W af G h aa UM;have IM:=ar (HL.out _ (ay.refl [] _));generalize ((eW n:Nat):Int)=nn at *;go_in;go_wp2_with fail;refine C' (HI.out _) ?_;go_wp2_with((with_reducible show wpList _ _ _ (⟨_,.load 111 (.tmp 5),_,_,_,_⟩::_) _ _);refine eA (by simp[Region.wanted,yielded,ag]) 111 (.tmp 5) rfl _ rfl _ IM.out ?_);refine Rr (Bu.out _ HK.out) λw1 V=> ?_;obtain⟨jK,xw⟩:=hh2 (HK.out.trans' V) (HL.out _ V);clear V;go_wp2_with(with_reducible refine gL 111 xw.out ?_);refine Rr (Bv.out _ jK.out) λw2 ac=> ?_;have fx:=ar (jK.out.trans' ac);clear ac;go_wp2_with fail;refine C' (JW.out _ fx.out) ?_;go_wp2_with fail;go_ret;exact⟨rfl,fx.out⟩
def uu (Ls:List (List Int)) (own:List Nat) (k:Nat):List (Int×Int):=(List.range k).flatMap λj=>jT (1080+8*own.getD j 0) (Ls.getD j []) 8
theorem Au (Ls:List (List Int))(own:List Nat)(k:Nat):uu Ls own (k+1)=uu Ls own k++jT (1080+8*own.getD k 0) (Ls.getD k []) 8:=by
 unfold uu;rw[dU,List.flatMap_append];simp
theorem CR (Ls:List (List Int))(own:List Nat)(k:Nat):(uu Ls own k).length=8*k:=by
 induction k with
 |zero=>rfl
 |succ k ih=>rw[Au,aC,ih,oY];omega
def ng (X:List Int) (i:Nat) (n:bT) (own:List Nat):List (Int×Int):=dh X own++(uu (gX n own) own own.length++jT (824+8*i) (od n own) 8)
theorem Gy (z:cm n):eW n<=32:=by
 rcases z.2.2 with ⟨-,G⟩|⟨-,h⟩
 ·rw[sy G]
  split<;>omega
 ·rw[vD h]
  have W:=h.1;have e0:=kG n.E 0;have V:=kG n.E 1;have U:=kG n.E 2;have J:=kG n.E 3;simp only[fN,dN];omega
theorem abr (h:eK w b gp B ps)(bb:In64 (az B ps))(hT:lD w)(Ew:gp<w.heap.size)(aR:ps.length<=800000)(i:Int)(n:bT)(v:Value)(g:Nat)(hB:n.B.length=13)(hE:bD w v g n.E)
  (hN:∀k,k<n.E.length->(eX n.E k).size<=9223372036854775807) (G:yj i n) (bw:n.E.length≠0->g≠b/\g≠gp) (hn:eW n<=(aZ (az B ps)).length):
  Calls prog 174 #[b,i,aM n v] w λe w'=>e=(0:Int)/\Onto w b gp B (ps++ng (az B ps) i.toNat n ((aZ (az B ps)).take (eW n))) w':=by
 have Bu:Hid (∀z,ay [] w z->Calls prog 96 #[aM n v] z λe w'=>e=true/\ay [] z w'):=λz hk=>by
  have :=oz n v g hB z (hE.keep hk (by simp)) hN;rwa[bu G.2.2] at this
 have cf:=jQ G.2.2;have Bv:Hid (∀z,ay [] w z->Calls prog 199 #[aM n v] z λe w'=>e=((eW n:Nat):Int)/\ay [] z w'):=λz hk=>by
  have :=Gd n v g hB z (hE.keep hk (by simp)) (by omega) hN;rwa[aB G.2.2] at this
 have bj:=Ct (az B ps);have JW:Hid (∀z,ay [] w z->Calls prog 151 #[b,((eW n:Nat):Int)] z (Br z b gp B ps ((aZ (az B ps)).take (eW n)))):=λz hk=>
  CM (h.keep hk (by simp) (by simp)) bb (hT.keep hk) (bS Ew hk.size) (by omega) (eW n) hn
 have EW:Hid (∀c∈(aZ (az B ps)).take (eW n),c≠0/\c<256):=λc hc=>by
  have :=kx.1 (bO hc);exact⟨this.2.1,this.1⟩
 have aa:((aZ (az B ps)).take (eW n)).length=eW n:=by rw[aJ,cQ hn]
 have bV:=Gy G.2.2;have bU:((aZ (az B ps)).take (eW n)).length<=32:=by omega
 have bg:=gG v hB;have av:=bh.new w (aM n v) 111;have bJ:=h.raw.lt;obtain⟨HI,HR,HB⟩:=hh3 (kC i) G.2.2 hB;have sf:Hid (∀z,bh z w.heap.size (aM n v) 111->(loadVar 111 w.heap.size).run prog z= .ok (.agg (aM n v)) z):=λz hb=>b9 hb hB
 have IX:Hid (ng (az B ps) i.toNat n ((aZ (az B ps)).take (eW n))=dh (az B ps) ((aZ (az B ps)).take (eW n))++(uu (gX n ((aZ (az B ps)).take (eW n))) ((aZ (az B ps)).take (eW n)) ((aZ (az B ps)).take (eW n)).length++jT (824+8*i.toNat) (od n ((aZ (az B ps)).take (eW n))) 8)):=rfl;have CE:Hid ((dh (az B ps) ((aZ (az B ps)).take (eW n))).length=9*eW n):=by
  show _=_;rw[qj _ _ EW.out,aa]
 generalize br:(aZ (az B ps)).take (eW n)=own at *;have aS:Hid (∀z v' U vo,bD z v g n.E->Reads z vo U (dK own)->v'=v->Calls prog 201 #[aM n v',vo] z (pM z (od n own) (gX n own))):=λz v' U vo W ho hv=>by
  subst hv;exact SJ n v' g hB G.2.2 W vo U own ho aa λc hc=>(EW.out c hc).2
 have bt:=yh G.2.2 aa;have X5:Hid (∀k,k<own.length->((gX n own).getD k []).length=8):=λk hk=>wK (by omega)
 have ax:=Bt n own;generalize ng (az B ps) i.toNat n own=bA,X8:dh (az B ps) own=X9 at *;have bz:=ar X8;clear X8;have bc:gF i=((824+8*i.toNat:Nat):Int):=by unfold gF;rw[aA (by have :=G.1;omega)];have :=G.1;omega
 rw[bc] at HI;have jG:i.toNat<32:=by have :=G.1;omega
 have c0:(w.alloc (.cells (aM n v) 111)).cell? w.heap.size=some (.int .i64 2):=by rw[av.cell,<-G.2.1];exact bg.f0
 generalize bo:od n own=RW,bq:gX n own=BW at *;have aX:Hid (∀z U vo,bD z v g n.E->Reads z vo U (dK own)->Calls prog 201 #[aM n v,vo] z (pM z RW BW)):=λz U vo W ho=>aS.out z v U vo W ho rfl
 generalize hZ:aM n v=Z at *;have HK:Hid (ay [] w (w.alloc (.cells Z 111))):=(ay.refl [] w).alloc _;obtain⟨qa,HE,HS,zM,IM⟩:=hh5 av hE h aR (sf.out _ av);generalize hq:824+8*i.toNat=q at *;have SK:q+8<=3128:=by omega
 clear hq jG bo bq hZ aS;have bl:(0:Int)<=(q:Int):=by omega
 have bI:=ar aa;clear av bg hE hN hB bc h bb hT bj hn br aR aa G;have bQ:=lj;generalize wC:(aY (List.replicate 8 0)).toArray=Z8 at *;have xJ:=ar wC;clear wC;go_in;go_wp2_with fail;refine C' (HI.out _) ?_;go_wp2_with((with_reducible show wpList _ _ _ (⟨_,.load 111 (.tmp 5),_,_,_,_⟩::_) _ _);refine eA (by simp[Region.wanted,yielded,bl]) 111 (.tmp 5) rfl _ rfl _ IM.out ?_);refine Rr (Bu.out _ HK.out) λw1 aI=> ?_;obtain⟨jK,zN⟩:=hh2 (HK.out.trans' aI) (qa.out.keep aI (by simp));have xw:=ar (sf.out _ zN.out);clear aI IM qa HK;go_wp2_with(with_reducible refine gL 111 xw.out ?_);refine Rr (Bv.out _ jK.out) λw2 J=> ?_;obtain⟨fx,oQ⟩:=hh2 (jK.out.trans' J) (zN.out.keep J (by simp));clear J jK zN xw Bv Bu;go_wp2_with fail;refine(JW.out _ fx.out).mono ?_;rintro e w3 ⟨vo,U,rfl,aG,cd,Ya,kX,ba,bP,aF,af⟩;rw[bz.out] at aF;have bY:=fx.out.size;have b6:=oQ.out.lt;have qI:=ar (oQ.out.keep af (by simp only[aL,aK,bC];omega));have xq:Hid (bD w3 v g n.E):=(HE.out.keep fx.out (by simp)).keep af (λbn=>by have :=bw bn;simp only[aL,aK,bC];omega);have oI:Hid (ay [b,gp] w w3):=(fx.out.mono (by simp)).trans' af;obtain⟨py,Qu,vE⟩:=hh3 aF aG (sf.out _ qI.out);have bW:=af.size;obtain⟨ao,co,rfl,Nn,cj,SE⟩:=sX aG;clear JW fx oQ HE HS af aF aG;go_wp2_with(with_reducible refine gL 111 vE.out ?_);refine(aX.out _ U _ xq.out Qu.out).mono ?_;rintro e w4 ⟨vb,gb,rfl,hb,bK,aH⟩;obtain⟨w5,bf,EE,kR⟩:=bH (P:= prog) (ty:= 195) (cs:=aY RW) (by rw[bB,ax];exact jc) (bh.new w4 Z8 195) (by rw[<-xJ.out];simp[bB,ax]) (fh _);have b8:=aH.size;have rF:ay [] w4 w5:=((ay.refl [] w4).alloc (.cells Z8 195)).trans kR (by intro x V;rw[au] at V;omega);have ua:ay [] w3 w5:=aH.trans' rF;obtain⟨EI,XW⟩:=hh2 bf EE;have aW:Hid (pL w5 vb gb BW):=hb.keep rF (by simp);have rz:=ar (py.out.keep ua (by simp) (by simp));have qR:Hid (ay [b,gp] w w5):=oI.out.trans' (ua.mono (by simp));have bE:Hid (own.length≠0->gb≠b/\gb≠kX/\gb≠w4.heap.size):=λh0=>by
  obtain⟨a,cap,q1,q2,q3,q4⟩:=hb;have :=(q4 (by omega)).1;omega
 have bL:U<w3.heap.size:=Ya;have aP:Hid (∀k,k<own.length->∀z,ay [b,kX] w5 z->U<w3.heap.size/\∃off,ao=some ⟨U,off,none⟩/\z.cell? ⟨U,off+k,none⟩=some (.int .i64 ((own.getD k 0:Nat):Int))):=λk hk z zV=>by
  obtain⟨h1,off,h2,h3⟩:=SE.out k hk;refine⟨h1,off,h2,?_⟩;have e1:z.heap[U]? =w5.heap[U]? :=zV.block U (bS h1 ua.size) (by simp only[aL,aK,bC];omega);have e2:w5.heap[U]? =w3.heap[U]? :=ua.block U h1 (by simp);exact(aO (w:=w3) (w':=z) (a:=⟨U,off+k,none⟩) (e1.trans e2)).trans h3
 have rU:w4.heap.size<w5.heap.size:=EE.lt;have bX:=ua.size;have bM:kX<w3.heap.size:=by
  rcases ba with h|h
  ·omega
  ·omega
 have aT:Hid (Onto w5 b kX B (ps++(X9++uu BW own 0)) w5):=by
  refine Onto.refl ?_;have :=rz.out;simpa[uu] using this
 clear bf EE kR rF ua aH hb vE py xq qI Qu oI aX SE;generalize bZ:w4.heap.size=g9 at *;go_wp2_with(with_reducible refine gS 195 EI.out ?_);go_loopg [44] own.length (λgh s44 z=>∃k:Nat,k+gh=own.length/\s44= .int .i64 (k:Int)/\Hid (Onto w5 b kX B (ps++(X9++uu BW own k)) z))
 case atStart=>exact⟨0,by omega,rfl,aT.out⟩
 case round=>
  clear aT;obtain⟨k,hk,rfl,HP⟩:=hrel;obtain⟨lS,QB,ak,J⟩:=HP.out;have SC:Hid (∀z,ay [] wr z->(loadVar 195 g9).run prog z= .ok (.agg (aY RW).toArray) z):=λz zV=>fM ((XW.out.keep J (by simp only[aL,aK,bC];omega)).keep zV (by simp)) ax
  have aQ:=CE.out;have b7:=zM.out;have Gj:=J.size;cases gk with
  |zero=>
   obtain rfl:k=own.length:=by omega
   have bv:Hid (∀z,Calls prog 137 #[i] z λe w'=>e=((q:Nat):Int)/\z=w'):=λz=>HI.out z
   have Ga:Hid (∀z,ay [] wr z->Calls prog 195 #[b,((q:Nat):Int),(aY RW).toArray] z λe w'=>e= .returned (.tuple #[])/\Hid (Onto w b gp B (ps++bA) w')):=λz ac=>by
    have h1:=sk (ak.keep ac (by simp) (by simp)) (by simp only[aC,CR,aQ];omega) q SK RW ax;refine h1.mono ?_;rintro e w' ⟨W,h2⟩;refine⟨W,?_⟩;rw[aV,aV,<-IX.out] at h2;have h3:=Onto.trans QB J (Onto.mono ac (by omega) h2);refine Onto.trans ?_ qR.out h3;rcases ba with h|h
    ·exact .inl h
    ·exact .inr ⟨by omega,by omega⟩
   clear HP ak aP IX;generalize (aY RW).toArray=ZW,((q:Nat):Int)=qi at *;go_wp2_with fail;refine j4 (l:=[_,_,_,_]) (S:=λz=>ay [] wr z) rfl ((ay.refl _ _).drew) ?_;repeat (
    (first
    |(refine aU.cons (.agg ZW) (bR.load rfl 195 (.tmp 9) rfl _ rfl λz V=>SC.out z V) ?_)
    |(refine aU.cons (.int .i64 qi) (bR.call rfl 137 #[i] ?W ?h) ?_;(case W=>(intro wz;go_simp));(case h=>exact λz V=>(bv.out z).mono λe w' W=>⟨W.1,W.2▸V⟩))
    |(refine aU.cons ?_ (bR.val rfl ?h) ?_;(case h=>(intro z V;clear V;go_simp;rfl))));simp only[Act.put,ag,ah,ai])
   refine aU.done λz V=> ?_
   have um:=ar V;clear V;go_wp2_with fail;refine Rr (Ga.out _ um.out) λw' rq=> ?_;go_wp2_with fail;go_ret;exact⟨rfl,rq.out⟩
  |succ gg=>
   have ae:k<own.length:=by omega
   have bN:(k:Int)<(own.length:Int):=by omega
   have cJ:(0:Int)<=(k:Int):=by omega
   obtain⟨cg,off,rfl,c1⟩:=aP.out k ae wr J;obtain⟨bp,cap,rfl,aN,ot⟩:=D4 aW.out (k:=k) (by omega) (X5.out k ae);have bF:=bE.out (by omega);have mY:Hid (∀z,ay [] wr z->(loadVar 195 ⟨gb,bp+k*8,none⟩).run prog z= .ok (.agg (aY (BW.getD k [])).toArray) z):=λz zV=>ot z ((zV.block gb (bS aN J.size) (by simp)).trans (J.block gb aN (by simp only[aL,aK,bC];omega)))
   have X3:own.getD k 0<256:=(EW.out _ (by rw[aj,aD ae];exact bG ae)).2;have DX:Hid (∀z,Calls prog 149 #[((own.getD k 0:Nat):Int)] z λe w'=>e=((1080+8*own.getD k 0:Nat):Int)/\z=w'):=λz=>by
    have :=ky ((own.getD k 0:Nat):Int) z;rwa[iO,aA,show 1080+((own.getD k 0:Nat):Int)*8=((1080+8*own.getD k 0:Nat):Int) by omega] at this
   have Ga:Hid (∀z,ay [] wr z->Calls prog 195 #[b,((1080+8*own.getD k 0:Nat):Int),(aY (BW.getD k [])).toArray] z λe w'=>e= .returned (.tuple #[])/\Hid (Onto w5 b kX B (ps++(X9++uu BW own (k+1))) w')):=λz ac=>by
    have h1:=sk (ak.keep ac (by simp) (by simp)) (by simp only[aC,CR,aQ];omega) (1080+8*own.getD k 0) (by omega) (BW.getD k []) (X5.out k ae);refine h1.mono ?_;rintro e w' ⟨W,h2⟩;refine⟨W,?_⟩;rw[aV,aV,<-Au] at h2;exact Onto.trans QB J (Onto.mono ac (by omega) h2)
   rw[bt] at *;clear HP ak SC X3 ot aN bF aW aP IX;generalize ((1080+8*own.getD k 0:Nat):Int)=bk,((own.getD k 0:Nat):Int)=x,(aY (BW.getD k [])).toArray=RK at *;go_wp2_with fail;refine j4 (l:=[_,_,_,_,_,_,_]) (S:=λz=>ay [] wr z) rfl ((ay.refl _ _).drew) ?_;repeat (
    (first
    |(refine aU.cons (.agg RK) (bR.load rfl 195 (.tmp 54) rfl _ rfl λz V=>mY.out z V) ?_)
    |(refine aU.cons (.int .i64 bk) (bR.call rfl 149 #[x] ?W ?h) ?_;(case W=>(intro wz;go_simp));(case h=>exact λz V=>(DX.out z).mono λe w' W=>⟨W.1,W.2▸V⟩))
    |(refine aU.cons ?_ (bR.val rfl ?h) ?_;(case h=>(intro z V;clear V;go_simp;rfl))));simp only[Act.put,ag,ah,ai])
   refine aU.done λz V=> ?_
   have um:=ar V;clear V;go_wp2_with fail;refine Rr (Ga.out _ um.out) λw' rq=> ?_;go_wp2_with fail;go_roundg gg;case measure=>omega
   case rel=>exact⟨k+1,by omega,by go_num,rq.out⟩
end Go.Proofs.YtepbpdipenedhaaGreatDoor

/- Lemmas. -/
import Derived.Test.YtimcfdnbpkiniaaGreatDoorM08
set_option maxHeartbeats 8000000
set_option maxRecDepth 100000
namespace Go.Proofs.YtimcfdnbpkiniaaGreatDoor
open Go.Proofs.Tryz
open Go.RowKit
variable{n:bT}{own:List Nat}{w:World}{p v:Value}{b g gp:Nat}{B:List Int}{ps:List (Int×Int)}
def pO (X R:List Int) (n:bT) (own:List Nat):Prop:=
 (∀k,k<own.length->(gX n own).getD k []=eo X (1080+8*own.getD k 0))/\oa n own=R
theorem yg (V:ct n)(G:own.length=eW n):(gX n own).length=own.length:=by
 unfold gX;rcases V.2.2 with ⟨z,U⟩|⟨z,J⟩
 ·rw[aA,G,su U,kx]
  by_cases h:(fw n.B).length<=6
  ·rw[aB h,aA];rfl
  ·rw[aA h,aB];rfl
 ·rw[aB z,oZ,G,vr J]
theorem wE{k:Nat}(z:k<(gX n own).length):((gX n own).getD k []).length=8:=by
 unfold gX at *;by_cases G:n.K=2
 ·rw[aB G] at z ⊢
  rw[oZ] at z;obtain⟨b,j,V,U,rfl⟩:=uW n.E z;rw[sk n.E own U V];exact X0 (by rw[lf,nS];omega) _
 ·rw[aA G] at z ⊢
  unfold kx at *;have J:(fw n.B).length<=13:=mC n.B 13;by_cases h:(fw n.B).length<=6
  ·rw[aB h] at z;simp at z
  ·rw[aA h] at z ⊢
   obtain rfl:k=0:=by simpa using z
   simp;omega
theorem Ec{Ls:List (List Int)}(h:pK w v g Ls){k:Nat}(U:k<Ls.length)(G:(Ls.getD k []).length=8):
  ∃off cap,v= .slice (some ⟨g,off,none⟩) Ls.length cap/\g<w.heap.size/\∀z,z.heap[g]? =w.heap[g]? ->(loadVar 132 ⟨g,off+k*8,none⟩).run prog z= .ok (.agg (aY (Ls.getD k [])).toArray) z:=by
 obtain⟨a,cap,V,h2,h3,W⟩:=h;obtain⟨hg,off,rfl,hc⟩:=W (by omega);refine⟨off,cap,V,hg,λz hx=>bZ g (off+k*8) (aY (Ls.getD k [])) underlying132 rfl (by rw[bB,G];exact ja) λj J=> ?_⟩;rw[bB,G] at J;rw[aO (w:=w) (a:=⟨g,off+k*8+j,none⟩) hx,hc k U j J,dF (by rw[G];exact J)]
theorem UJ (QA:eK w b gp B ps)(n:bT)(v:Value)(g:Nat)(hB:n.B.length=13)(hR:ct n)(hE:bD w v g n.E)(vo:Value)(go:Nat)(own:List Nat)(hO:Reads w vo go (dL own))(ho:own.length=eW n)(wC:∀c∈own,c<256){R:List Int}(aN:R.length=8):
  Calls prog 187 #[b,(aY R).toArray,aM n v,vo] w λe w'=>∃t:Bool,e= .returned (.bool t)/\(t=true↔pO (az B ps) R n own)/\ay [] w w':=by
 obtain⟨ao,co,rfl,Nn,aV,SF⟩:=sV hO;obtain⟨W0,U⟩:∃W0,W0=(w.alloc (.cells (aY R).toArray 132)).alloc (.cells (aM n v) 75):=⟨_,rfl⟩;have rT:bh W0 w.heap.size (aY R).toArray 132 :=by
  rw[U];exact(bh.new w _ _).alloc _
 have tS:bh W0 (w.heap.size+1) (aM n v) 75 :=by
  have :=bh.new (w.alloc (.cells (aY R).toArray 132)) (aM n v) 75;have e:(w.alloc (.cells (aY R).toArray 132)).heap.size=w.heap.size+1:=by simp
  rw[e] at this;rw[U];exact this
 have cM:ay [] w W0:=by
  rw[U];exact((ay.refl _ _).alloc _).alloc _
 obtain⟨uT,aQ⟩:=hh2 (cg tS hB) (SK n v g hB hR (hE.keep cM (by simp)) (.slice ao own.length co) go own (hO.keep cM (by simp)) ho wC);have aP:=yg hR ho;have X8:Hid (∀k,k<own.length->((gX n own).getD k []).length=8):=λk hk=>wE (by omega)
 have aa:=Bz n own;have aZ:=lq;have aS:own.length<=4001:=by
  rw[ho]
  have :=CM n (by rcases hR.2.2 with ⟨-,hf⟩|⟨-,hd⟩;·have :=hf.2.1;omega
                  ·have :=hd.1;omega) 4
  unfold eW;have h2:=hR.2.2;rcases h2 with ⟨-,hf⟩|⟨-,hd⟩
  ·have :=su hf
   unfold eW at this;rw[this];split<;>omega
  ·have h3:=vr hd
   have PC:=hd.1;unfold eW at h3;rw[h3];have e0:=kC n.E 0;have e1:=kC n.E 1;have e2:=kC n.E 2;have e3:=kC n.E 3;simp only[fO,dN];omega
 have ae:Hid (∀t,(t=true↔pO (az B ps) R n own)↔(t=true↔((∀k,k<own.length->(gX n own).getD k []=eo (az B ps) (1080+8*own.getD k 0))/\oa n own=R))):=λt=>Iff.rfl
 obtain⟨vT,ry,fJ,Uq⟩:=hh4 (QA.keep cM (by simp) (by simp)) U cM rT;have X9:Hid (∀k,k<own.length->own.getD k 0<256):=λk hk=>wC _ (by rw[aj,aD hk];exact bF hk)
 have Gq:=ar aN;have ba:W0.heap.size=w.heap.size+1+1:=by rw[U];simp
 clear rT tS cM U hE hO hR ho wC hB QA;generalize aK:oa n own=RW,aI:gX n own=BW,aM n v=Z,Gm:(aY R).toArray=ZR at *;have aF:=ar Gm;generalize vZ:(aY (List.replicate 8 0)).toArray=Z8 at *;have xE:=ar vZ;clear aK aI Gm vZ;generalize hn:own.length=nn at *;have HN:=ar hn;clear hn;go_in;go_wp2_with((with_reducible show wpList _ _ _ (⟨_,.load 75 (.tmp 6),_,_,_,_⟩::_) _ _);rw[<-ry.out];refine gJ rfl 75 (.tmp 6) rfl _ rfl _ uT.out ?_);refine aQ.out.mono ?_;rintro e w1 ⟨vb,gb,rfl,hb,hg,af⟩;obtain⟨w2,aC,EJ,ac⟩:=bG (P:= prog) (ty:= 132) (cs:=aY RW) (by rw[bB,aa];exact ja) (bh.new w1 Z8 132) (by rw[<-xE.out];simp[bB,aa]) (fk _);have aJ:=af.size;have EO:=ar aC;have fo:Hid (ay [] W0 w2):=(af.alloc (.cells Z8 132)).trans ac (by intro x G;rw[au] at G;omega);have XZ:=ar EJ;have ax:Hid (pK w2 vb gb BW):=by
  obtain⟨a,cap,q1,q2,q3,q4⟩:=hb;refine pK.keep (l:=[w1.heap.size]) ⟨a,cap,q1,q2,q3,q4⟩ (((ay.refl [w1.heap.size] w1).alloc (.cells Z8 132)).trans' ac) λh0 hm=> ?_
  have :=(q4 h0).1;rw[au] at hm;omega
 clear aC EJ ac af hb hg aJ;generalize aW:w1.heap.size=g9 at *;go_wp2_with(with_reducible refine gS 132 EO.out ?_);go_loopg [21] nn (λgh s21 z=>∃k:Nat,k+gh=nn/\s21= .int .i64 (k:Int)/\Hid ((∀j,j<k->BW.getD j []=eo (az B ps) (1080+8*own.getD j 0))/\ay [] w2 z))
 case atStart=>exact⟨0,by omega,rfl,λj hj=>by omega,ay.refl _ _⟩
 case round=>
  obtain⟨k,hk,rfl,HP⟩:=hrel;obtain⟨J,fV⟩:=HP.out;cases gk with
  |zero=>
   obtain rfl:k=nn:=by omega
   have aR:=ar (fN (XZ.out.keep fV (by simp)) aa);have Iz:Hid ((loadVar 132 w.heap.size).run prog wr= .ok (.agg ZR) wr):=by
    have :=(Uq.out.keep fo.out (by simp)).keep fV (by simp);rw[<-aF.out] at this ⊢;exact fN this Gq.out
   have IK:=λz=>MS (a:=RW) (b:=R) aa Gq.out z
   have aL:=xW;rw[aF.out] at IK;obtain⟨t,ht⟩:∃t,decide (RW=R)=t:=⟨_,rfl⟩;rw[ht] at IK;have HF:Hid (∃t':Bool,Ending.returned (.bool t)=t'/\(t'=true↔pO (az B ps) R n own)/\ay [] w wr):=by
    refine⟨t,rfl,(ae.out t).2 ?_,fJ.out.trans' (fo.out.trans' fV)⟩;rw[<-ht,decide_eq_true_iff];exact⟨λh=>⟨J,h⟩,λh=>h.2⟩
   have aT:=IK;clear J fV HP ht IK;generalize (aY RW).toArray=ZW at *;go_wp2_with(with_reducible first|refine gL 132 aR.out ?_|refine gL 132 Iz.out ?_);go_ret;exact HF.out
  |succ gg=>
   have V:k<nn:=by omega
   have bb:(k:Int)<(nn:Int):=by omega
   have cM:(0:Int)<=(k:Int):=by omega
   obtain⟨aB,Qt,rfl,av⟩:=SF.out k V;have c0:=(aO (w:=w) (w':=wr) (a:=⟨go,Qt+k,none⟩) ((fJ.out.trans' (fo.out.trans' fV)).block go aB (by simp))).trans av;have G:=X9.out k V;obtain⟨off,cap,rfl,aG,ot⟩:=Ec ax.out (k:=k) (by omega) (X8.out k V);rw[aP] at *;have mY:Hid (∀z,ay [] wr z->(loadVar 132 ⟨gb,off+k*8,none⟩).run prog z= .ok (.agg (aY (BW.getD k [])).toArray) z):=λz Cj=>ot z ((fV.trans' Cj).block gb aG (by simp))
   obtain⟨x,ak⟩:∃x,x=own.getD k 0:=⟨_,rfl⟩;rw[<-ak] at G c0;have ou:=ar (λz=>kv (x:Int) z);have Br:Hid (iN (x:Int)=((1080+8*x:Nat):Int)):=by
    show _=_;rw[iN,aA];omega
   rw[Br.out] at ou;have nt:Hid (∀z,ay [] wr z->Calls prog 62 #[b,((1080+8*x:Nat):Int)] z λe w'=>e=(aY (eo (az B ps) (1080+8*x))).toArray/\ay [] z w'):=λz Cj=>
    pH (((vT.out.keep fo.out (by simp) (by simp)).keep fV (by simp) (by simp)).keep Cj (by simp) (by simp)) (1080+8*x) (by omega)
   have IK:=λz=>MS (a:=BW.getD k []) (b:=eo (az B ps) (1080+8*x)) (X8.out k V) (iF _ _) z
   have aL:=xW;obtain⟨t,ht⟩:∃t,decide (BW.getD k []=eo (az B ps) (1080+8*x))=t:=⟨_,rfl⟩;rw[ht] at IK;obtain⟨EG,jr⟩:=hh2 J fV;have HT:Hid (t=true↔BW.getD k []=eo (az B ps) (1080+8*own.getD k 0)):=by
    show _↔_;rw[<-ht,decide_eq_true_iff,ak]
   have aX:=IK;clear J fV HP av aB aG ot ax ht G ak Br IK;generalize aH:((1080+8*x:Nat):Int)=px,Nr:(x:Int)=xi,(aY (BW.getD k [])).toArray=ZQ,(aY (eo (az B ps) (1080+8*x))).toArray=ZP at *;clear aH Nr;cases t;all_goals
    go_wp2_with fail;refine ju (S:=λz=>ay [] wr z) ((ay.refl _ _).drew) ?_;repeat (
     (first
     |(refine aU.cons (.agg ZQ) (bR.load rfl 132 (.tmp 28) rfl _ rfl λz G=>mY.out z G) ?_)
     |(refine aU.cons (.int .i64 px) (bR.call rfl 155 #[xi] ?W ?h) ?_;(case W=>(intro wz;go_simp));(case h=>exact λz G=>(ou.out z).mono λe w' W=>⟨W.1,W.2▸G⟩))
     |(refine aU.cons (.agg ZP) (bR.call rfl 62 #[b,px] ?W ?h) ?_;(case W=>(intro wz;go_simp));(case h=>exact λz G=>(nt.out z G).mono λe w' W=>⟨W.1,G.trans' W.2⟩))
     |(refine aU.cons ?_ (bR.val rfl ?h) ?_;(case h=>(intro z G;clear G;go_simp;rfl))));simp only[Act.put,ag,ah,ai])
    refine aU.done λwz G=> ?_
    have EM:=ar G;clear G
   ·have HF:Hid (∃t':Bool,Ending.returned false= .returned t'/\(t'=true↔pO (az B ps) R n own)/\ay [] w wz):=by
     refine⟨false,rfl,(ae.out false).2 ⟨λh=>(by cases h),λh=> ?_⟩,fJ.out.trans' (fo.out.trans' (jr.out.trans' EM.out))⟩;have :=HT.out.2 (h.1 k V);cases this
    go_wp2_with fail;go_ret;exact HF.out
   ·have HN:Hid ((∀j,j<k+1->BW.getD j []=eo (az B ps) (1080+8*own.getD j 0))/\ay [] w2 wz):=by
     refine⟨λj hj=> ?_,jr.out.trans' EM.out⟩;by_cases e:j=k
     ·subst e;exact HT.out.1 (by trivial)
     ·exact EG.out j (by omega)
    clear EG HT ae;go_wp2_with fail;go_roundg gg;case measure=>omega
    case rel=>exact⟨k+1,by omega,by go_num,HN.out⟩
theorem CW (n:bT)(own:List Nat):(oa n own).getD 0 0=pn n/\(oa n own).getD 1 0=n.S:=by
 unfold oa;split
 ·exact⟨rfl,rfl⟩
 ·unfold np
  split<;>exact⟨rfl,rfl⟩
theorem Nu (l:List (ByteArray×Int))(j y:Nat)(W:y<7):(eT (yU l j)).getD y 0=if 3*j+y/2<l.length/\y<6 then (if y%2=0 then ((kZ (bl (eX l (3*j+y/2))):Nat):Int) else jm l (3*j+y/2)) else 0:=by
 by_cases h:3*j+y/2<l.length/\y<6
 ·rw[aB h]
  have z:y/2<(yU l j).length:=by rw[nS];omega
  obtain⟨-,V,U⟩:=Fh l j (y/2) z;have J:=wj (yU l j) (y/2) z;rcases (show y%2=0\/y%2=1 by omega) with G|G
  ·rw[aB G,<-V,<-J.1,show y/2*2=y by omega]
  ·rw[aA,<-U,<-J.2,show y/2*2+1=y by omega]
 ·rw[aA h,aj,aP (by rw[lf,nS];omega)]
  rfl
theorem Ya (h:n.K=2){b:Nat}(z:b<4):(oa n own).getD (2+b) 0=hdD n.E own b/\(oa n own).getD 6 0=0/\(oa n own).getD 7 0=0:=by
 unfold oa;rw[aB h];refine⟨?_,rfl,rfl⟩;rcases (show b=0\/b=1\/b=2\/b=3 by omega) with rfl|rfl|rfl|rfl<;>rfl
def IU (i:Int) (n:bT):Prop:=(0<=i/\i<32)/\n.F=1/\ct n
instance (i:Int) (n:bT):Decidable (IU i n):=by unfold IU;infer_instance
theorem abw (i:Int)(n:bT)(v:Value)(g:Nat)(hB:n.B.length=13)(hE:bD w v g n.E)(hN:∀k,k<n.E.length->(eX n.E k).size<=9223372036854775807)(aa:¬IU i n):
  Calls prog 150 #[p,i,aM n v] w λe w'=>e=(1:Int)/\ay [] w w':=by
 have BA:Hid (∀W,ay [] w W->Calls prog 101 #[aM n v] W λe w'=>e=(decide (ct n))/\ay [] W w'):=λW hk=>oz n v g hB W (hE.keep hk (by simp)) hN
 have V:=gG v hB;have G:=bh.new w (aM n v) 75;obtain⟨HL,U⟩:=hh2 (cg G hB) (kz i);generalize aM n v=Z at *;have c0:(w.alloc (.cells Z 75)).cell? w.heap.size=some (.int .i64 n.F):=by rw[G.cell];exact V.f0
 have HK:Hid (ay [] w (w.alloc (.cells Z 75))):=(ay.refl [] w).alloc _;have jY:=ar aa;clear G V hE hN hB aa;by_cases hi:i<0\/32<=i
 ·have z:gF i= -1:=by unfold gF;rw[aB hi]
  rw[z] at U;clear z;go_in;go_wp2_with fail;refine C' (U.out _) ?_;go_wp2_with fail;go_ret;exact⟨rfl,HK.out⟩
 ·have z:gF i=((824+8*i.toNat:Nat):Int):=by unfold gF;rw[aA hi];omega
  rw[z] at U;have ac:(0:Int)<=((824+8*i.toNat:Nat):Int):=by omega
  generalize ((824+8*i.toNat:Nat):Int)=q at *;clear z;by_cases hF:n.F=1
  ·have HQ:Hid (decide (ct n)=false):=aQ λh=>jY.out ⟨by omega,hF,h⟩
   rw[hF] at c0;rw[HQ.out] at BA;go_in;go_wp2_with fail;refine C' (U.out _) ?_;go_wp2_with((with_reducible show wpList _ _ _ (⟨_,.load 75 (.tmp 5),_,_,_,_⟩::_) _ _);refine eA (by simp[Region.wanted,yielded,ac]) 75 (.tmp 5) rfl _ rfl _ HL.out ?_);refine Rr (BA.out _ HK.out) λw1 J=> ?_;have jH:=ar (HK.out.trans' J);clear J;go_wp2_with fail;go_ret;exact⟨rfl,jH.out⟩
  ·have ae:(n.F != 1)=true:=bne_iff_ne.2 hF
   generalize n.F=f at *;go_in;go_wp2_with fail;refine C' (U.out _) ?_;go_wp2_with fail;go_ret;exact⟨rfl,HK.out⟩
theorem UK (h:eK w b gp B ps)(ae:In64 (az B ps))(i:Int)(n:bT)(v:Value)(g:Nat)(hB:n.B.length=13)(hE:bD w v g n.E)(hN:∀k,k<n.E.length->(eX n.E k).size<=9223372036854775807)
  (G:IU i n) (UL:(aZ (az B ps)).length<eY n):
  Calls prog 150 #[b,i,aM n v] w λe w'=>e=(7:Int)/\ay [] w w':=by
 have BA:Hid (∀z,ay [] w z->Calls prog 101 #[aM n v] z λe w'=>e=true/\ay [] z w'):=λz V=>by
  have :=oz n v g hB z (hE.keep V (by simp)) hN;rwa[bu G.2.2] at this
 have ag:=(jM G.2.2).1;have BB:Hid (∀z,Calls prog 181 #[aM n v] z λe w'=>e=((eY n:Nat):Int)/\ay [] z w'):=λz=>by
  obtain⟨a,cap,rfl,-⟩:=hE;exact Sv n a cap hB (by omega) z
 have JT:Hid (∀z,ay [] w z->Calls prog 157 #[b,((eY n:Nat):Int)] z λe w'=>e= .returned (.tuple #[(),(7:Int)])/\z=w'):=λz V=>
  yf (h.keep V (by simp) (by simp)) ae (eY n) UL
 have ac:=gG v hB;have J:=bh.new w (aM n v) 75;have HL:Hid (∀z,ay [] (w.alloc (.cells (aM n v) 75)) z->(loadVar 75 w.heap.size).run prog z= .ok (.agg (aM n v)) z):=λz V=>cg (J.keep V (by simp)) hB
 have HI:=ar (kz i);generalize aM n v=Z at *;have c0:(w.alloc (.cells Z 75)).cell? w.heap.size=some (.int .i64 1):=by rw[J.cell,<-G.2.1];exact ac.f0
 have HK:Hid (ay [] w (w.alloc (.cells Z 75))):=(ay.refl [] w).alloc _;have W:gF i=((824+8*i.toNat:Nat):Int):=by unfold gF;rw[aA (by have :=G.1;omega)];have :=G.1;omega
 rw[W] at HI;have af:(0:Int)<=((824+8*i.toNat:Nat):Int):=by omega
 generalize ((824+8*i.toNat:Nat):Int)=q at *;clear J ac hE hN hB W G h ae UL;have F9:=ar (HL.out _ (ay.refl [] _));generalize ((eY n:Nat):Int)=nn at *;go_in;go_wp2_with fail;refine C' (HI.out _) ?_;go_wp2_with((with_reducible show wpList _ _ _ (⟨_,.load 75 (.tmp 5),_,_,_,_⟩::_) _ _);refine eA (by simp[Region.wanted,yielded,af]) 75 (.tmp 5) rfl _ rfl _ F9.out ?_);refine Rr (BA.out _ HK.out) λw1 U=> ?_;obtain⟨jH,xC⟩:=hh2 (HK.out.trans' U) (HL.out _ U);clear U;go_wp2_with(with_reducible refine gL 75 xC.out ?_);refine Rr (BB.out _) λw2 aa=> ?_;have fo:=ar (jH.out.trans' aa);clear aa;go_wp2_with fail;refine C' (JT.out _ fo.out) ?_;go_wp2_with fail;go_ret;exact⟨rfl,fo.out⟩
def w4 (ws:List Nat):Array Value:= #[.int .u64 ((ws.getD 0 0:Nat):Int),.int .u64 ((ws.getD 1 0:Nat):Int),.int .u64 ((ws.getD 2 0:Nat):Int),.int .u64 ((ws.getD 3 0:Nat):Int)]
theorem UM{l:List Nat}(h:Reads w v g (dL l)):∃a cap,v= .slice a l.length cap/\l.length<=cap/\cap<=maxLen/\
  Hid (∀k,k<l.length->g<w.heap.size/\∃off,a=some ⟨g,off,none⟩/\w.cell? ⟨g,off+k,none⟩=some (.int .i64 ((l.getD k 0:Nat):Int))):=by
 obtain⟨a,cap,J,G,h2,W⟩:=h;rw[fp] at *;refine⟨a,cap,J,G,h2,λk z=> ?_⟩;obtain⟨V,off,ho,U⟩:=W (by intro e;have :=cP List.length e;rw[fp,cD] at this;omega);exact⟨V,off,ho,(U k z).trans (nA z)⟩
theorem abx{P:Program}{ty e:TypeId}{off T:Nat}{Z:Array Value}(G:P.underlying ty=some (.slice e))(U:bh w g Z T)(J:Z[off]? =some v):(loadVar ty ⟨g,off,none⟩).run P w= .ok v w:=by
 have h:(isAgg ty).run P w= .ok false w:=by
  unfold isAgg;rw[cr,dB G w];rfl
 have z:w.cell? ⟨g,off,none⟩=some v:=by rw[U.cell,J]
 simp[loadVar,h,z]
theorem adZ (h:eK w b gp B ps)(bt:In64 (az B ps))(hT:kN w)(DV:gp<w.heap.size)(bl:ps.length<=800000)(i:Int)(n:bT)(v:Value)(g:Nat)(hB:n.B.length=13)(hE:bD w v g n.E)
  (hN:∀k,k<n.E.length->(eX n.E k).size<=9223372036854775807) (ac:IU i n) (bz:n.E.length≠0->g≠b/\g≠gp) (hn:eY n<=(aZ (az B ps)).length):
  Calls prog 150 #[b,i,aM n v] w λe w'=>e=(0:Int)/\Onto w b gp B (ps++pN (az B ps) i.toNat n ((aZ (az B ps)).take (eY n))) w':=by
 have BA:Hid (∀z,ay [] w z->Calls prog 101 #[aM n v] z λe w'=>e=true/\ay [] z w'):=λz hk=>by
  have :=oz n v g hB z (hE.keep hk (by simp)) hN;rwa[bu ac.2.2] at this
 have cn:=jM ac.2.2;have BB:Hid (∀z,Calls prog 181 #[aM n v] z λe w'=>e=((eY n:Nat):Int)/\ay [] z w'):=λz=>by
  obtain⟨a,cap,rfl,-⟩:=hE;exact Sv n a cap hB (by omega) z
 have bg:Hid (∀z,Calls prog 179 #[aM n v] z λe w'=>e=((bp n.E.length:Nat):Int)/\ay [] z w'):=λz=>by
  obtain⟨a,cap,rfl,-⟩:=hE;exact sQ n a cap hB (by omega) z
 have b6:=Cz (az B ps);have JT:Hid (∀z,ay [] w z->Calls prog 157 #[b,((eY n:Nat):Int)] z (Bx z b gp B ps ((aZ (az B ps)).take (eY n)))):=λz hk=>
  CU (h.keep hk (by simp) (by simp)) bt (hT.keep hk) (bS DV hk.size) (by omega) (eY n) hn
 have Fb:Hid (∀c∈(aZ (az B ps)).take (eY n),c≠0/\c<256):=λc hc=>by
  have :=ku.1 (bO hc);exact⟨this.2.1,this.1⟩
 have aH:((aZ (az B ps)).take (eY n)).length=eY n:=by rw[aJ,cT hn]
 have cI:bp n.E.length<=eY n/\eY n<=bp n.E.length+1:=by unfold eY;split<;>omega
 have ba:=gG v hB;have aN:=bh.new w (aM n v) 75;have cA:=h.raw.lt;obtain⟨HI,bL,bW,HR,HB⟩:=hh5 (kz i) (uh ac.2.2) (Ns ac.2.2 hN) ac.2.2 hB;have bY:Hid (∀(l:List Int) (aa:Int),l.length=13->adC l->0<=aa/\aa<9223372036854775808->∀z,Calls prog 180 #[aM n v,(zs l).toArray,(aa:Int)] z λe w'=>e=(aY (iq n l aa)).toArray/\ay [] z w'):=λl aa hl bH h0 z=>D4 n v hB bL.out l hl bH aa h0 z
 have rZ:Hid (∀z,bh z w.heap.size (aM n v) 75->(loadVar 75 w.heap.size).run prog z= .ok (.agg (aM n v)) z/\(loadVar 73 ⟨w.heap.size,4,none⟩).run prog z= .ok (.agg (zs n.B).toArray) z):=λz hb=>⟨cg hb hB,adY hb hB⟩
 have IV:Hid (pN (az B ps) i.toNat n ((aZ (az B ps)).take (eY n))=dm (az B ps) ((aZ (az B ps)).take (eY n))++wD i.toNat n ((aZ (az B ps)).take (eY n))):=rfl;have CK:Hid ((dm (az B ps) ((aZ (az B ps)).take (eY n))).length=9*eY n):=by
  show _=_;rw[qj _ _ Fb.out,aH]
 generalize bB:(aZ (az B ps)).take (eY n)=own at *;generalize pN (az B ps) i.toNat n own=aW,Yb:dm (az B ps) own=Yc at *;have bQ:=ar Yb;clear Yb;have bw:gF i=((824+8*i.toNat:Nat):Int):=by unfold gF;rw[aA (by have :=ac.1;omega)];have :=ac.1;omega
 rw[bw] at HI;have jD:i.toNat<32:=by have :=ac.1;omega
 have c0:(w.alloc (.cells (aM n v) 75)).cell? w.heap.size=some (.int .i64 1):=by rw[aN.cell,<-ac.2.1];exact ba.f0
 generalize hZ:aM n v=Z at *;have bE:Z[17]? =some v:=ba.f5;have HK:Hid (ay [] w (w.alloc (.cells Z 75))):=(ay.refl [] w).alloc _;obtain⟨p9,HE,HS,zN⟩:=hh4 aN hE h bl;have F9:=ar (rZ.out _ aN).1;generalize hq:824+8*i.toNat=q at *;have HQ:Hid (q=824+8*i.toNat):=hq.symm;have SL:q+8<=3128:=by omega
 clear hq jD;have bU:(0:Int)<=(q:Int):=by omega
 clear aN ba hE hN hB bw h bt hT b6 hn bB bl;go_in;go_wp2_with fail;refine C' (HI.out _) ?_;go_wp2_with((with_reducible show wpList _ _ _ (⟨_,.load 75 (.tmp 5),_,_,_,_⟩::_) _ _);refine eA (by simp[Region.wanted,yielded,bU]) 75 (.tmp 5) rfl _ rfl _ F9.out ?_);refine Rr (BA.out _ HK.out) λw1 aR=> ?_;obtain⟨jH,zO⟩:=hh2 (HK.out.trans' aR) (p9.out.keep aR (by simp));have xC:=ar (rZ.out _ zO.out).1;clear aR F9 p9 HK;go_wp2_with(with_reducible refine gL 75 xC.out ?_);refine Rr (BB.out _) λw2 V=> ?_;obtain⟨fo,oP⟩:=hh2 (jH.out.trans' V) (zO.out.keep V (by simp));clear V jH zO xC BB BA;go_wp2_with fail;refine(JT.out _ fo.out).mono ?_;rintro e w3 ⟨vo,go,rfl,bq,cz,Yd,kX,cF,cH,aT,aG⟩;rw[bQ.out] at aT;have bA:=fo.out.size;have cx:=oP.out.lt;have qK:=ar (oP.out.keep aG (by simp only[aL,aK,bC];omega));have xj:Hid (bD w3 v g n.E):=(HE.out.keep fo.out (by simp)).keep aG (λcr=>by have :=bz cr;simp only[aL,aK,bC];omega);have oI:Hid (ay [b,gp] w w3):=(fo.out.mono (by simp)).trans' aG;obtain⟨pq,Qu⟩:=hh2 aT bq;have uJ:=ar (rZ.out _ qK.out).1;have cv:=aG.size;obtain⟨a,oc,rfl,SM,Mj,-⟩:=bq;have bP:Hid ((dL own).length=eY n):=by show _=_;rw[fp,aH]
 rw[bP.out] at SM Qu ⊢;have UN:Hid (n.E.length≠0->g∉[b,kX]):=λh0 hm=>by
  have h1:=bz h0;have h2:g<w.heap.size:=by
   rcases dE g w.heap.size with h|h
   ·exact h
   ·exact absurd (au.2 rfl) (HE.out.apart (l:=[g]) (λx G=>by rw[au] at G;omega) h0)
  simp only[aL,aK,bC] at hm;rcases hm with rfl|rfl
  ·exact h1.1 rfl
  ·omega
 clear JT fo oP HE HS aG aT;have WV:=pC;go_wp2_with(with_reducible refine gL 75 uJ.out ?_);refine Rr (bg.out _) λw4 af=> ?_;obtain⟨CX,Gz,qb,tT,aX⟩:=hh5 (qK.out.keep af (by simp)) (xj.out.keep af (by simp)) (oI.out.trans' (af.mono (by simp))) (pq.out.keep af (by simp) (by simp)) (Qu.out.keep af (by simp));have cC:=af.size;have bj:=ar (rZ.out _ CX.out).2;have Ye:=bh.new w4 (zs (List.replicate 13 0)).toArray 73;obtain⟨w5,Gp,rT,lh⟩:=bG (P:= prog) (ty:= 73) (cs:=zs n.B) (by rw[eO,HB.out];exact mf) Ye (by simp[eO,HB.out]) (nB _);have EK:=ar Gp;have rG:ay [] w4 w5.drew:=(((ay.refl [] w4).alloc _).trans lh (by intro x G;rw[au] at G;omega)).drew;have aS:=aX.out.keep rG (by simp);rw[<-aH] at aS;obtain⟨vc,w6,zT,tS,jv⟩:=UF (n:=13) (cap:=13) (m:=bp n.E.length) (mc:=oc) rT.drew aS (by omega) (by rw[HB.out];omega) (by omega);have bv:=ar zT;have IW:ay [] w4 w6:=rG.trans jv (by intro x G;rw[au] at G;omega);obtain⟨SE,bK,uB,GA,b9⟩:=hh5 (CX.out.keep IW (by simp)) (Gz.out.keep IW (by simp)) (qb.out.trans' (IW.mono (by simp))) (tT.out.keep IW (by simp) (by simp)) (aX.out.keep IW (by simp));have bf:bh w6 w4.heap.size (zs (dY n own)).toArray 73 :=tS;have bZ:=ar bf;have cB:=IW.size;have cu:=bf.lt;have cf:=UG w4.heap.size;have cm:=Qz a (eY n) oc (bp n.E.length) (by omega);obtain⟨EC,X9⟩:=hh2 (vh (own:=own) HB.out (by omega) (by omega)) (CV HR.out HB.out (by omega) Fb.out);have uT:Hid (bp n.E.length<own.length->fq n own=own.getD (bp n.E.length) 0/\qx n own=jP (1080+8*fq n own) ((dY n own).drop 5) 8):=λhc=>by
  refine⟨by unfold fq;rw[aB hc],by unfold qx;rw[aB hc]⟩
 have Li:Hid (¬bp n.E.length<own.length->fq n own=0/\qx n own=[]):=λhc=>by
  refine⟨by unfold fq;rw[aA hc],by unfold qx;rw[aA hc]⟩
 have bJ:Hid (aW=Yc++(sY n.E (dY n own) (bp n.E.length)++(qx n own++jP q (iq n (dY n own) ((fq n own:Nat):Int)) 8))):=by
  have h1:=IV.out;unfold wD at h1;rw[<-HQ.out] at h1;exact h1
 have JL:Hid (∀k,k<bp n.E.length->4*k<n.E.length):=λk hk=>by unfold bp at hk;omega
 have bb:=CK.out;have cy:=zN.out;clear Gp rT lh rG zT tS jv IW bf Ye IV bg uJ oI pq xj qK Qu qb tT Gz CX aX aS af;generalize zF:bp n.E.length=W,(zs n.B).toArray=ZB,(zs (List.replicate 13 0)).toArray=ZN at *;go_wp2_with(with_reducible first|refine gL 73 bj.out ?_|refine gS 73 EK.out ?_);refine jW (l:=[_,_,_,_]) (S:=λz=>z=w5.drew) rfl rfl ?_;repeat (refine aU.cons ?_ (bR.val rfl ?h) ?_;(case h=>(intro z G;go_simp;rfl));simp only[Act.put,ag,ah,ai])
 refine aU.done λz G=> ?_
 subst G;refine jt rfl (.tmp 40) (.tmp 43) 76 76 rfl _ _ rfl rfl (bv.out _) ?_;clear cf cm EK bj bv WV;have bN:Hid (kX=gp\/(w.heap.size<=kX/\kX<w6.heap.size)):=by show _\/_;omega
 have cD:b<w.heap.size/\w.heap.size<w4.heap.size/\kX<w6.heap.size/\kX≠w.heap.size/\kX≠w4.heap.size/\go<w4.heap.size/\w.heap.size<=go:=by omega
 have cG:go<w6.heap.size:=by omega
 generalize w4.heap.size=lb at *;have HX:Hid (∀z,ay [b,kX] w6 z->bh z w.heap.size Z 75/\bD z v g n.E/\Reads z (.slice a (eY n) oc) go (dL own)/\bh z lb (zs (dY n own)).toArray 73):=λz hk=>by
  refine⟨SE.out.keep hk ?_,bK.out.keep hk UN.out,b9.out.keep hk ?_,bZ.out.keep hk ?_⟩
  ·simp only[aL,aK,bC];omega
  ·simp only[aL,aK,bC];omega
  ·simp only[aL,aK,bC];omega
 have bn:Hid (Onto w6 b kX B (ps++(Yc++sY n.E (dY n own) 0)) w6):=by
  show Onto _ _ _ _ _ _;rw[show sY n.E (dY n own) 0=[] from rfl,br];exact Onto.refl GA.out
 have cJ:Hid (W<=6):=cn.2.1;have HF:Hid (∀(x:Int),x=((fq n own:Nat):Int)->∀wy,Onto w6 b kX B (ps++(Yc++(sY n.E (dY n own) W++qx n own))) wy->∀z,ay [] wy z->
   (loadVar 75 w.heap.size).run prog z= .ok (.agg Z) z/\(loadVar 73 lb).run prog z= .ok (.agg (zs (dY n own)).toArray) z/\
   Calls prog 180 #[Z,(zs (dY n own)).toArray,(x:Int)] z (λe w'=>e=(aY (iq n (dY n own) x)).toArray/\ay [] z w')/\
   Calls prog 182 #[b,(q:Int),(aY (iq n (dY n own) x)).toArray] z (λe w'=>e= .returned (.tuple #[])/\Hid (Onto w b gp B (ps++aW) w'))):=by
  rintro x rfl wy ⟨lS,QB,ak,V⟩ z hk;obtain⟨ax,-,-,ae⟩:=HX.out _ V;have qa:fq n own<256:=by
   by_cases hc:W<own.length
   ·have h1:=Fb.out (own.getD W 0) (by rw[aj,aD hc];exact bF _)
    rw[(uT.out hc).1];exact h1.2
   ·rw[(Li.out hc).1];omega
  have av:(qx n own).length<=8:=by
   by_cases hc:W<own.length
   ·rw[(uT.out hc).2,oX];omega
   ·rw[(Li.out hc).2];simp
  have Qk:=ax.keep hk (by simp);have cj:=ae.keep hk (by simp);have bX:(iq n (dY n own) ((fq n own:Nat):Int)).length=8:=by simp[iq,EC.out]
  refine⟨(rZ.out _ Qk).1,fA (off:=0) cj EC.out (λk hk=>by rw[bc,aF,gK (by rw[EC.out];exact hk)]),bY.out _ _ EC.out (λk=>by have :=X9.out k;omega) (by omega) z,?_⟩;have h1:=se (ak.keep hk (by simp) (by simp)) (by simp only[aC,yX,bb];omega) q (by omega) (iq n (dY n own) ((fq n own:Nat):Int)) bX;refine h1.mono ?_;rintro e w' ⟨J,h2⟩;refine⟨J,?_⟩;have e1:ps++(Yc++(sY n.E (dY n own) W++qx n own))++jP q (iq n (dY n own) ((fq n own:Nat):Int)) 8=ps++aW:=by rw[bJ.out];simp only[aV]
  rw[e1] at h2;have bA:=V.size;exact Onto.trans bN.out uB.out (Onto.trans QB V (Onto.mono hk (by omega) h2))
 go_wp2_with fail;go_loopg [46] W (λgh s46 z=>∃k:Nat,k+gh=W/\s46= .int .i64 (k:Int)/\Hid (Onto w6 b kX B (ps++(Yc++sY n.E (dY n own) k)) z))
 case atStart=>exact⟨0,by omega,rfl,bn.out⟩
 case round=>
  clear bn;obtain⟨k,hk,rfl,HP⟩:=hrel;obtain⟨lS,QB,ak,V⟩:=HP.out;obtain⟨ax,aI,aQ,ae⟩:=HX.out _ V;have bA:=V.size;cases gk with
  |zero=>
   obtain rfl:k=W:=by omega
   by_cases hc:k<own.length
   ·obtain⟨qa,av⟩:=uT.out hc
    obtain⟨off,bo,bV⟩:∃off,a=some ⟨go,off,none⟩/\wr.cell? ⟨go,off+k,none⟩=some (.int .i64 ((fq n own:Nat):Int)):=by
     obtain⟨a',ct,J,-,-,HC⟩:=UM aQ
     injection J with h1 h2 h3
     subst h1;obtain⟨-,off,ho,bI⟩:=HC.out k hc;exact⟨off,ho,by rw[bI,qa]⟩
    have cw:fq n own<256:=by
     have h1:=Fb.out (own.getD k 0) (by rw[aj,aD hc];exact bF _);rw[qa];exact h1.2
    have mY:Hid (∀z,ay [] wr z->(loadVar 73 lb).run prog z= .ok (.agg (zs (dY n own)).toArray) z):=λz U=>
     fA (off:=0) (ae.keep U (by simp)) EC.out (λk hk=>by rw[bc,aF,gK (by rw[EC.out];exact hk)])
    have D8:Hid (∀z,Calls prog 155 #[((fq n own:Nat):Int)] z λe w'=>e=((1080+8*fq n own:Nat):Int)/\z=w'):=λz=>by
     have :=kv ((fq n own:Nat):Int) z;rwa[iN,aA,show 1080+((fq n own:Nat):Int)*8=((1080+8*fq n own:Nat):Int) by omega] at this
    have SD:Hid (∀z,Calls prog 184 #[(zs (dY n own)).toArray] z λe w'=>e=(aY ((dY n own).drop 5)).toArray/\ay [] z w'):=λz=>Qi _ EC.out (λk=>by have :=X9.out k;omega) z
    have Gd:Hid (∀z,ay [] wr z->Calls prog 182 #[b,((1080+8*fq n own:Nat):Int),(aY ((dY n own).drop 5)).toArray] z λe w'=>e= .returned (.tuple #[])/\Onto w6 b kX B (ps++(Yc++(sY n.E (dY n own) k++qx n own))) w'):=λz U=>by
     have h1:=se (ak.keep U (by simp) (by simp)) (by simp only[aC,yX,bb];omega) (1080+8*fq n own) (by omega) ((dY n own).drop 5) (by rw[bM,EC.out]);refine h1.mono ?_;rintro e w' ⟨J,h2⟩;refine⟨J,?_⟩;rw[aV,aV,<-av] at h2;exact Onto.trans QB V (Onto.mono U (by omega) h2)
    have cp:(k:Int)<((eY n:Nat):Int):=by omega
    have cM:(0:Int)<=(k:Int):=by omega
    subst bo;have HF:=ar (HF.out ((fq n own:Nat):Int) rfl);clear HP ak ax aI aQ ae uT Li qa av HX;generalize (aY (iq n (dY n own) ((fq n own:Nat):Int))).toArray=ZR,(aY ((dY n own).drop 5)).toArray=ZD,(zs (dY n own)).toArray=ZL,((1080+8*fq n own:Nat):Int)=bk at *;generalize ((fq n own:Nat):Int)=li at *;go_wp2_with fail;refine jW (l:=[_,_,_,_,_]) (S:=λz=>ay [] wr z) rfl ((ay.refl _ _).drew) ?_;repeat (
     (first
     |(refine aU.cons (.agg ZL) (bR.load rfl 73 (.tmp 10) rfl _ rfl λz G=>mY.out z G) ?_)
     |(refine aU.cons (.int .i64 bk) (bR.call rfl 155 #[li] ?J ?h) ?_;(case J=>(intro wz;go_simp));(case h=>exact λz G=>(D8.out z).mono λe w' J=>⟨J.1,J.2▸G⟩))
     |(refine aU.cons (.agg ZD) (bR.call rfl 184 #[ZL] ?J ?h) ?_;(case J=>(intro wz;go_simp));(case h=>exact λz G=>(SD.out z).mono λe w' J=>⟨J.1,G.trans' J.2⟩))
     |(refine aU.cons ?_ (bR.val rfl ?h) ?_;(case h=>(intro z G;clear G;go_simp;rfl))));simp only[Act.put,ag,ah,ai])
    refine aU.done λz G=> ?_
    have uf:=ar G;clear G;go_wp2_with fail;refine Rr (Gd.out _ uf.out) λw7 xd=> ?_;have aO:=ar (HF.out w7 xd);clear HF xd uf Gd SD mY D8;go_wp2_with fail;refine jW (l:=[_,_,_,_,_,_,_]) (S:=λz=>ay [] w7 z) rfl ((ay.refl _ _).drew) ?_;repeat (
     (first
     |(refine aU.cons (.agg Z) (bR.load rfl 75 (.tmp 5) rfl _ rfl λz G=>(aO.out z G).1) ?_)
     |(refine aU.cons (.agg ZL) (bR.load rfl 73 (.tmp 10) rfl _ rfl λz G=>(aO.out z G).2.1) ?_)
     |(refine aU.cons (.int .i64 (q:Int)) (bR.call rfl 63 #[i] ?J ?h) ?_;(case J=>(intro wz;go_simp));(case h=>exact λz G=>(HI.out z).mono λe w' J=>⟨J.1,J.2▸G⟩))
     |(refine aU.cons (.agg ZR) (bR.call rfl 180 #[Z,ZL,li] ?J ?h) ?_;(case J=>(intro wz;go_simp));(case h=>exact λz G=>(aO.out z G).2.2.1.mono λe w' J=>⟨J.1,G.trans' J.2⟩))
     |(refine aU.cons ?_ (bR.val rfl ?h) ?_;(case h=>(intro z G;clear G;go_simp;rfl))));simp only[Act.put,ag,ah,ai])
    refine aU.done λz G=> ?_
    have uf:=ar G;clear G;go_wp2_with fail;refine(aO.out _ uf.out).2.2.2.mono ?_;rintro e w' ⟨rfl,xd⟩;go_wp2_with fail;go_ret;exact⟨rfl,xd.out⟩
   ·obtain⟨qa,av⟩:=Li.out hc
    have aP:=ar (HF.out 0 (by rw[qa];rfl) wr (by rw[av,br];exact HP.out));have cE:¬(k:Int)<((eY n:Nat):Int):=by omega
    clear HF HP ak ax aI aQ ae uT Li qa av HX;generalize (aY (iq n (dY n own) 0)).toArray=ZR,(zs (dY n own)).toArray=ZL at *;go_wp2_with fail;refine jW (l:=[_,_,_,_,_,_,_]) (S:=λz=>ay [] wr z) rfl ((ay.refl _ _).drew) ?_;repeat (
     (first
     |(refine aU.cons (.agg Z) (bR.load rfl 75 (.tmp 5) rfl _ rfl λz G=>(aP.out z G).1) ?_)
     |(refine aU.cons (.agg ZL) (bR.load rfl 73 (.tmp 10) rfl _ rfl λz G=>(aP.out z G).2.1) ?_)
     |(refine aU.cons (.int .i64 (q:Int)) (bR.call rfl 63 #[i] ?J ?h) ?_;(case J=>(intro wz;go_simp));(case h=>exact λz G=>(HI.out z).mono λe w' J=>⟨J.1,J.2▸G⟩))
     |(refine aU.cons (.agg ZR) (bR.call rfl 180 #[Z,ZL,(0:Int)] ?J ?h) ?_;(case J=>(intro wz;go_simp));(case h=>exact λz G=>(aP.out z G).2.2.1.mono λe w' J=>⟨J.1,G.trans' J.2⟩))
     |(refine aU.cons ?_ (bR.val rfl ?h) ?_;(case h=>(intro z G;clear G;go_simp;rfl))));simp only[Act.put,ag,ah,ai])
    refine aU.done λz G=> ?_
    have uf:=ar G;clear G;go_wp2_with fail;refine(aP.out _ uf.out).2.2.2.mono ?_;rintro e w' ⟨rfl,xd⟩;go_wp2_with fail;go_ret;exact⟨rfl,xd.out⟩
  |succ gg=>
   have ck:k<W:=by omega
   have cp:(k:Int)<(W:Int):=by omega
   have cM:(0:Int)<=(k:Int):=by omega
   have mo:(k:Int)<13:=by omega
   have SC:=X9.out k;have cd:Hid (∀z,ay [] wr z->(loadVar 3 ⟨lb,k,none⟩).run prog z= .ok (.int .i64 ((dY n own).getD k 0)) z):=λz U=>FY (off:=k) underlying3 (ae.keep U (by simp)) (by rw[aF,gK (by rw[EC.out];omega)])
   have b7:Hid (∀z,ay [] wr z->(loadVar 30 ⟨w.heap.size,17,none⟩).run prog z= .ok v z):=λz U=>abx (off:=17) underlying30 (ax.keep U (by simp)) bE
   have D8:Hid (∀z,Calls prog 155 #[((dY n own).getD k 0:Int)] z λe w'=>e=((1080+8*((dY n own).getD k 0).toNat:Nat):Int)/\z=w'):=λz=>by
    have :=kv ((dY n own).getD k 0) z;rwa[iN,aA,show 1080+(dY n own).getD k 0*8=((1080+8*((dY n own).getD k 0).toNat:Nat):Int) by omega] at this
   have rz:Hid (∀z,ay [] wr z->Calls prog 183 #[v,(k:Int)] z λe w'=>e=(aY (jk n.E k)).toArray/\ay [] z w'):=λz U=>D7 (aI.keep U (by simp)) bW.out k (JL.out k ck)
   have Gd:Hid (∀z,ay [] wr z->Calls prog 182 #[b,((1080+8*((dY n own).getD k 0).toNat:Nat):Int),(aY (jk n.E k)).toArray] z λe w'=>e= .returned (.tuple #[])/\Hid (Onto w6 b kX B (ps++(Yc++sY n.E (dY n own) (k+1))) w')):=λz U=>by
    have h1:=se (ak.keep U (by simp) (by simp)) (by simp only[aC,yX,bb];omega) (1080+8*((dY n own).getD k 0).toNat) (by omega) (jk n.E k) (mW _ _ _);refine h1.mono ?_;rintro e w' ⟨J,h2⟩;refine⟨J,?_⟩;rw[aV,aV,<-Ar] at h2;exact Onto.trans QB V (Onto.mono U (by omega) h2)
   clear HP ak ax aI aQ ae HX HF uT Li SC;generalize ((1080+8*((dY n own).getD k 0).toNat:Nat):Int)=bk at *;generalize (dY n own).getD k 0=x,(aY (jk n.E k)).toArray=RW at *;go_wp2_with fail;refine jW (l:=[_,_,_,_,_,_,_,_,_]) (S:=λz=>ay [] wr z) rfl ((ay.refl _ _).drew) ?_;repeat (
    (first
    |(refine aU.cons (.int .i64 x) (bR.load rfl 3 (.tmp 51) rfl _ rfl λz G=>cd.out z G) ?_)
    |(refine aU.cons v (bR.load rfl 30 (.tmp 54) rfl _ rfl λz G=>b7.out z G) ?_)
    |(refine aU.cons (.int .i64 bk) (bR.call rfl 155 #[(x:Int)] ?J ?h) ?_;(case J=>(intro wz;go_simp));(case h=>exact λz G=>(D8.out z).mono λe w' J=>⟨J.1,J.2▸G⟩))
    |(refine aU.cons (.agg RW) (bR.call rfl 183 #[v,(k:Int)] ?J ?h) ?_;(case J=>(intro wz;go_simp));(case h=>exact λz G=>(rz.out z G).mono λe w' J=>⟨J.1,G.trans' J.2⟩))
    |(refine aU.cons ?_ (bR.val rfl ?h) ?_;(case h=>(intro z G;clear G;go_simp;rfl))));simp only[Act.put,ag,ah,ai])
   refine aU.done λz G=> ?_
   have uf:=ar G;clear G;go_wp2_with fail;refine Rr (Gd.out _ uf.out) λw' xd=> ?_;go_wp2_with fail;go_roundg gg;case measure=>omega
   case rel=>exact⟨k+1,by omega,by go_num,xd.out⟩
def yh (i:Int) (n:bT):Prop:=(0<=i/\i<32)/\n.F=2/\ct n
instance (i:Int) (n:bT):Decidable (yh i n):=by unfold yh;infer_instance
theorem Yf (i:Int)(n:bT)(v:Value)(g:Nat)(hB:n.B.length=13)(hE:bD w v g n.E)(hN:∀k,k<n.E.length->(eX n.E k).size<=9223372036854775807)(aa:¬yh i n):
  Calls prog 152 #[p,i,aM n v] w λe w'=>e=(1:Int)/\ay [] w w':=by
 have BA:Hid (∀W,ay [] w W->Calls prog 101 #[aM n v] W λe w'=>e=(decide (ct n))/\ay [] W w'):=λW hk=>oz n v g hB W (hE.keep hk (by simp)) hN
 have V:=gG v hB;have G:=bh.new w (aM n v) 75;obtain⟨HL,U⟩:=hh2 (cg G hB) (kz i);generalize aM n v=Z at *;have c0:(w.alloc (.cells Z 75)).cell? w.heap.size=some (.int .i64 n.F):=by rw[G.cell];exact V.f0
 have HK:Hid (ay [] w (w.alloc (.cells Z 75))):=(ay.refl [] w).alloc _;have jY:=ar aa;clear G V hE hN hB aa;by_cases hi:i<0\/32<=i
 ·have z:gF i= -1:=by unfold gF;rw[aB hi]
  rw[z] at U;clear z;go_in;go_wp2_with fail;refine C' (U.out _) ?_;go_wp2_with fail;go_ret;exact⟨rfl,HK.out⟩
 ·have z:gF i=((824+8*i.toNat:Nat):Int):=by unfold gF;rw[aA hi];omega
  rw[z] at U;have ac:(0:Int)<=((824+8*i.toNat:Nat):Int):=by omega
  generalize ((824+8*i.toNat:Nat):Int)=q at *;clear z;by_cases hF:n.F=2
  ·have HQ:Hid (decide (ct n)=false):=aQ λh=>jY.out ⟨by omega,hF,h⟩
   rw[hF] at c0;rw[HQ.out] at BA;go_in;go_wp2_with fail;refine C' (U.out _) ?_;go_wp2_with((with_reducible show wpList _ _ _ (⟨_,.load 75 (.tmp 5),_,_,_,_⟩::_) _ _);refine eA (by simp[Region.wanted,yielded,ac]) 75 (.tmp 5) rfl _ rfl _ HL.out ?_);refine Rr (BA.out _ HK.out) λw1 J=> ?_;have jH:=ar (HK.out.trans' J);clear J;go_wp2_with fail;go_ret;exact⟨rfl,jH.out⟩
  ·have ae:(n.F != 2)=true:=bne_iff_ne.2 hF
   generalize n.F=f at *;go_in;go_wp2_with fail;refine C' (U.out _) ?_;go_wp2_with fail;go_ret;exact⟨rfl,HK.out⟩
theorem QC (h:eK w b gp B ps)(ae:In64 (az B ps))(i:Int)(n:bT)(v:Value)(g:Nat)(hB:n.B.length=13)(hE:bD w v g n.E)(hN:∀k,k<n.E.length->(eX n.E k).size<=9223372036854775807)
  (G:yh i n) (UL:(aZ (az B ps)).length<eW n):
  Calls prog 152 #[b,i,aM n v] w λe w'=>e=(7:Int)/\ay [] w w':=by
 have BA:Hid (∀z,ay [] w z->Calls prog 101 #[aM n v] z λe w'=>e=true/\ay [] z w'):=λz U=>by
  have :=oz n v g hB z (hE.keep U (by simp)) hN;rwa[bu G.2.2] at this
 have ag:=(jM G.2.2).1;have BB:Hid (∀z,ay [] w z->Calls prog 186 #[aM n v] z λe w'=>e=((eW n:Nat):Int)/\ay [] z w'):=λz U=>by
  have :=Gg n v g hB z (hE.keep U (by simp)) (by omega) hN;rwa[aB G.2.2] at this
 have JT:Hid (∀z,ay [] w z->Calls prog 157 #[b,((eW n:Nat):Int)] z λe w'=>e= .returned (.tuple #[(),(7:Int)])/\z=w'):=λz U=>
  yf (h.keep U (by simp) (by simp)) ae (eW n) UL
 have ac:=gG v hB;have J:=bh.new w (aM n v) 75;have HL:Hid (∀z,ay [] (w.alloc (.cells (aM n v) 75)) z->(loadVar 75 w.heap.size).run prog z= .ok (.agg (aM n v)) z):=λz U=>cg (J.keep U (by simp)) hB
 have HI:=ar (kz i);generalize aM n v=Z at *;have c0:(w.alloc (.cells Z 75)).cell? w.heap.size=some (.int .i64 2):=by rw[J.cell,<-G.2.1];exact ac.f0
 have HK:Hid (ay [] w (w.alloc (.cells Z 75))):=(ay.refl [] w).alloc _;have W:gF i=((824+8*i.toNat:Nat):Int):=by unfold gF;rw[aA (by have :=G.1;omega)];have :=G.1;omega
 rw[W] at HI;have af:(0:Int)<=((824+8*i.toNat:Nat):Int):=by omega
 generalize ((824+8*i.toNat:Nat):Int)=q at *;clear J ac hE hN hB W G h ae UL;have F9:=ar (HL.out _ (ay.refl [] _));generalize ((eW n:Nat):Int)=nn at *;go_in;go_wp2_with fail;refine C' (HI.out _) ?_;go_wp2_with((with_reducible show wpList _ _ _ (⟨_,.load 75 (.tmp 5),_,_,_,_⟩::_) _ _);refine eA (by simp[Region.wanted,yielded,af]) 75 (.tmp 5) rfl _ rfl _ F9.out ?_);refine Rr (BA.out _ HK.out) λw1 V=> ?_;obtain⟨jH,xC⟩:=hh2 (HK.out.trans' V) (HL.out _ V);clear V;go_wp2_with(with_reducible refine gL 75 xC.out ?_);refine Rr (BB.out _ jH.out) λw2 aa=> ?_;have fo:=ar (jH.out.trans' aa);clear aa;go_wp2_with fail;refine C' (JT.out _ fo.out) ?_;go_wp2_with fail;go_ret;exact⟨rfl,fo.out⟩
def ui (Ls:List (List Int)) (own:List Nat) (k:Nat):List (Int×Int):=(List.range k).flatMap λj=>jP (1080+8*own.getD j 0) (Ls.getD j []) 8
theorem Av (Ls:List (List Int))(own:List Nat)(k:Nat):ui Ls own (k+1)=ui Ls own k++jP (1080+8*own.getD k 0) (Ls.getD k []) 8:=by
 unfold ui;rw[dV,List.flatMap_append];simp
theorem CY (Ls:List (List Int))(own:List Nat)(k:Nat):(ui Ls own k).length=8*k:=by
 induction k with
 |zero=>rfl
 |succ k ih=>rw[Av,aC,ih,oX];omega
def nb (X:List Int) (i:Nat) (n:bT) (own:List Nat):List (Int×Int):=dm X own++(ui (gX n own) own own.length++jP (824+8*i) (oa n own) 8)
theorem GC (G:ct n):eW n<=32:=by
 rcases G.2.2 with ⟨-,z⟩|⟨-,h⟩
 ·rw[su z]
  split<;>omega
 ·rw[vr h]
  have W:=h.1;have V:=kC n.E 0;have U:=kC n.E 1;have J:=kC n.E 2;have e3:=kC n.E 3;simp only[fO,dN];omega
theorem aby (h:eK w b gp B ps)(aT:In64 (az B ps))(hT:kN w)(DV:gp<w.heap.size)(aR:ps.length<=800000)(i:Int)(n:bT)(v:Value)(g:Nat)(hB:n.B.length=13)(hE:bD w v g n.E)
  (hN:∀k,k<n.E.length->(eX n.E k).size<=9223372036854775807) (G:yh i n) (bA:n.E.length≠0->g≠b/\g≠gp) (hn:eW n<=(aZ (az B ps)).length):
  Calls prog 152 #[b,i,aM n v] w λe w'=>e=(0:Int)/\Onto w b gp B (ps++nb (az B ps) i.toNat n ((aZ (az B ps)).take (eW n))) w':=by
 have BA:Hid (∀z,ay [] w z->Calls prog 101 #[aM n v] z λe w'=>e=true/\ay [] z w'):=λz hk=>by
  have :=oz n v g hB z (hE.keep hk (by simp)) hN;rwa[bu G.2.2] at this
 have cd:=jM G.2.2;have BB:Hid (∀z,ay [] w z->Calls prog 186 #[aM n v] z λe w'=>e=((eW n:Nat):Int)/\ay [] z w'):=λz hk=>by
  have :=Gg n v g hB z (hE.keep hk (by simp)) (by omega) hN;rwa[aB G.2.2] at this
 have bv:=Cz (az B ps);have JT:Hid (∀z,ay [] w z->Calls prog 157 #[b,((eW n:Nat):Int)] z (Bx z b gp B ps ((aZ (az B ps)).take (eW n)))):=λz hk=>
  CU (h.keep hk (by simp) (by simp)) aT (hT.keep hk) (bS DV hk.size) (by omega) (eW n) hn
 have Fb:Hid (∀c∈(aZ (az B ps)).take (eW n),c≠0/\c<256):=λc hc=>by
  have :=ku.1 (bO hc);exact⟨this.2.1,this.1⟩
 have aa:((aZ (az B ps)).take (eW n)).length=eW n:=by rw[aJ,cT hn]
 have b6:=GC G.2.2;have bL:((aZ (az B ps)).take (eW n)).length<=32:=by omega
 have bb:=gG v hB;have ak:=bh.new w (aM n v) 75;have bW:=h.raw.lt;obtain⟨HI,HR,HB⟩:=hh3 (kz i) G.2.2 hB;have rZ:Hid (∀z,bh z w.heap.size (aM n v) 75->(loadVar 75 w.heap.size).run prog z= .ok (.agg (aM n v)) z):=λz hb=>cg hb hB
 have IV:Hid (nb (az B ps) i.toNat n ((aZ (az B ps)).take (eW n))=dm (az B ps) ((aZ (az B ps)).take (eW n))++(ui (gX n ((aZ (az B ps)).take (eW n))) ((aZ (az B ps)).take (eW n)) ((aZ (az B ps)).take (eW n)).length++jP (824+8*i.toNat) (oa n ((aZ (az B ps)).take (eW n))) 8)):=rfl;have CK:Hid ((dm (az B ps) ((aZ (az B ps)).take (eW n))).length=9*eW n):=by
  show _=_;rw[qj _ _ Fb.out,aa]
 generalize bj:(aZ (az B ps)).take (eW n)=own at *;have bg:Hid (∀z v' U vo,bD z v g n.E->Reads z vo U (dL own)->v'=v->Calls prog 188 #[aM n v',vo] z (pL z (oa n own) (gX n own))):=λz v' U vo W ho hv=>by
  subst hv;exact SK n v' g hB G.2.2 W vo U own ho aa λc hc=>(Fb.out c hc).2
 have bl:=yg G.2.2 aa;have X8:Hid (∀k,k<own.length->((gX n own).getD k []).length=8):=λk hk=>wE (by omega)
 have av:=Bz n own;generalize nb (az B ps) i.toNat n own=bw,Yb:dm (az B ps) own=Yc at *;have bq:=ar Yb;clear Yb;have bc:gF i=((824+8*i.toNat:Nat):Int):=by unfold gF;rw[aA (by have :=G.1;omega)];have :=G.1;omega
 rw[bc] at HI;have jD:i.toNat<32:=by have :=G.1;omega
 have c0:(w.alloc (.cells (aM n v) 75)).cell? w.heap.size=some (.int .i64 2):=by rw[ak.cell,<-G.2.1];exact bb.f0
 generalize bz:oa n own=RW,bp:gX n own=BW at *;have aX:Hid (∀z U vo,bD z v g n.E->Reads z vo U (dL own)->Calls prog 188 #[aM n v,vo] z (pL z RW BW)):=λz U vo W ho=>bg.out z v U vo W ho rfl
 generalize hZ:aM n v=Z at *;have HK:Hid (ay [] w (w.alloc (.cells Z 75))):=(ay.refl [] w).alloc _;obtain⟨p9,HE,HS,zN,F9⟩:=hh5 ak hE h aR (rZ.out _ ak);generalize hq:824+8*i.toNat=q at *;have SL:q+8<=3128:=by omega
 clear hq jD bz bp hZ bg;have br:(0:Int)<=(q:Int):=by omega
 have bI:=ar aa;clear ak bb hE hN hB bc h aT hT bv hn bj aR aa G;have bU:=lq;generalize vZ:(aY (List.replicate 8 0)).toArray=Z8 at *;have xE:=ar vZ;clear vZ;go_in;go_wp2_with fail;refine C' (HI.out _) ?_;go_wp2_with((with_reducible show wpList _ _ _ (⟨_,.load 75 (.tmp 5),_,_,_,_⟩::_) _ _);refine eA (by simp[Region.wanted,yielded,br]) 75 (.tmp 5) rfl _ rfl _ F9.out ?_);refine Rr (BA.out _ HK.out) λw1 aF=> ?_;obtain⟨jH,zO⟩:=hh2 (HK.out.trans' aF) (p9.out.keep aF (by simp));have xC:=ar (rZ.out _ zO.out);clear aF F9 p9 HK;go_wp2_with(with_reducible refine gL 75 xC.out ?_);refine Rr (BB.out _ jH.out) λw2 J=> ?_;obtain⟨fo,oP⟩:=hh2 (jH.out.trans' J) (zO.out.keep J (by simp));clear J jH zO xC BB BA;go_wp2_with fail;refine(JT.out _ fo.out).mono ?_;rintro e w3 ⟨vo,U,rfl,aH,bV,Yd,kX,bf,b9,aI,ac⟩;rw[bq.out] at aI;have cj:=fo.out.size;have bN:=oP.out.lt;have qK:=ar (oP.out.keep ac (by simp only[aL,aK,bC];omega));have xj:Hid (bD w3 v g n.E):=(HE.out.keep fo.out (by simp)).keep ac (λbH=>by have :=bA bH;simp only[aL,aK,bC];omega);have oI:Hid (ay [b,gp] w w3):=(fo.out.mono (by simp)).trans' ac;obtain⟨pq,Qu,uJ⟩:=hh3 aI aH (rZ.out _ qK.out);have bJ:=ac.size;obtain⟨ao,co,rfl,Nn,bK,SF⟩:=sV aH;clear JT fo oP HE HS ac aI aH;go_wp2_with(with_reducible refine gL 75 uJ.out ?_);refine(aX.out _ U _ xj.out Qu.out).mono ?_;rintro e w4 ⟨vb,gb,rfl,hb,ck,aP⟩;obtain⟨w5,ba,EJ,lh⟩:=bG (P:= prog) (ty:= 132) (cs:=aY RW) (by rw[bB,av];exact ja) (bh.new w4 Z8 132) (by rw[<-xE.out];simp[bB,av]) (fk _);have bZ:=aP.size;have rG:ay [] w4 w5:=((ay.refl [] w4).alloc (.cells Z8 132)).trans lh (by intro x V;rw[au] at V;omega);have tU:ay [] w3 w5:=aP.trans' rG;obtain⟨EO,XZ⟩:=hh2 ba EJ;have aW:Hid (pK w5 vb gb BW):=hb.keep rG (by simp);have rA:=ar (pq.out.keep tU (by simp) (by simp));have qU:Hid (ay [b,gp] w w5):=oI.out.trans' (tU.mono (by simp));have bE:Hid (own.length≠0->gb≠b/\gb≠kX/\gb≠w4.heap.size):=λh0=>by
  obtain⟨a,cap,q1,q2,q3,q4⟩:=hb;have :=(q4 (by omega)).1;omega
 have bP:U<w3.heap.size:=Yd;have aN:Hid (∀k,k<own.length->∀z,ay [b,kX] w5 z->U<w3.heap.size/\∃off,ao=some ⟨U,off,none⟩/\z.cell? ⟨U,off+k,none⟩=some (.int .i64 ((own.getD k 0:Nat):Int))):=λk hk z Cj=>by
  obtain⟨h1,off,h2,h3⟩:=SF.out k hk;refine⟨h1,off,h2,?_⟩;have e1:z.heap[U]? =w5.heap[U]? :=Cj.block U (bS h1 tU.size) (by simp only[aL,aK,bC];omega);have e2:w5.heap[U]? =w3.heap[U]? :=tU.block U h1 (by simp);exact(aO (w:=w3) (w':=z) (a:=⟨U,off+k,none⟩) (e1.trans e2)).trans h3
 have rT:w4.heap.size<w5.heap.size:=EJ.lt;have b7:=tU.size;have bY:kX<w3.heap.size:=by
  rcases bf with h|h
  ·omega
  ·omega
 have aQ:Hid (Onto w5 b kX B (ps++(Yc++ui BW own 0)) w5):=by
  refine Onto.refl ?_;have :=rA.out;simpa[ui] using this
 clear ba EJ lh rG tU aP hb uJ pq xj qK Qu oI aX SF;generalize bM:w4.heap.size=g9 at *;go_wp2_with(with_reducible refine gS 132 EO.out ?_);go_loopg [44] own.length (λgh s44 z=>∃k:Nat,k+gh=own.length/\s44= .int .i64 (k:Int)/\Hid (Onto w5 b kX B (ps++(Yc++ui BW own k)) z))
 case atStart=>exact⟨0,by omega,rfl,aQ.out⟩
 case round=>
  clear aQ;obtain⟨k,hk,rfl,HP⟩:=hrel;obtain⟨lS,QB,ax,J⟩:=HP.out;have SD:Hid (∀z,ay [] wr z->(loadVar 132 g9).run prog z= .ok (.agg (aY RW).toArray) z):=λz Cj=>fN ((XZ.out.keep J (by simp only[aL,aK,bC];omega)).keep Cj (by simp)) av
  have aS:=CK.out;have bQ:=zN.out;have Gm:=J.size;cases gk with
  |zero=>
   obtain rfl:k=own.length:=by omega
   have bn:Hid (∀z,Calls prog 63 #[i] z λe w'=>e=((q:Nat):Int)/\z=w'):=λz=>HI.out z
   have Gd:Hid (∀z,ay [] wr z->Calls prog 182 #[b,((q:Nat):Int),(aY RW).toArray] z λe w'=>e= .returned (.tuple #[])/\Hid (Onto w b gp B (ps++bw) w')):=λz af=>by
    have h1:=se (ax.keep af (by simp) (by simp)) (by simp only[aC,CY,aS];omega) q SL RW av;refine h1.mono ?_;rintro e w' ⟨W,h2⟩;refine⟨W,?_⟩;rw[aV,aV,<-IV.out] at h2;have h3:=Onto.trans QB J (Onto.mono af (by omega) h2);refine Onto.trans ?_ qU.out h3;rcases bf with h|h
    ·exact .inl h
    ·exact .inr ⟨by omega,by omega⟩
   clear HP ax aN IV;generalize (aY RW).toArray=ZW,((q:Nat):Int)=qi at *;go_wp2_with fail;refine jW (l:=[_,_,_,_]) (S:=λz=>ay [] wr z) rfl ((ay.refl _ _).drew) ?_;repeat (
    (first
    |(refine aU.cons (.agg ZW) (bR.load rfl 132 (.tmp 9) rfl _ rfl λz V=>SD.out z V) ?_)
    |(refine aU.cons (.int .i64 qi) (bR.call rfl 63 #[i] ?W ?h) ?_;(case W=>(intro wz;go_simp));(case h=>exact λz V=>(bn.out z).mono λe w' W=>⟨W.1,W.2▸V⟩))
    |(refine aU.cons ?_ (bR.val rfl ?h) ?_;(case h=>(intro z V;clear V;go_simp;rfl))));simp only[Act.put,ag,ah,ai])
   refine aU.done λz V=> ?_
   have uf:=ar V;clear V;go_wp2_with fail;refine Rr (Gd.out _ uf.out) λw' xd=> ?_;go_wp2_with fail;go_ret;exact⟨rfl,xd.out⟩
  |succ gg=>
   have ae:k<own.length:=by omega
   have cf:(k:Int)<(own.length:Int):=by omega
   have cM:(0:Int)<=(k:Int):=by omega
   obtain⟨bX,off,rfl,c1⟩:=aN.out k ae wr J;obtain⟨bo,cap,rfl,aG,ot⟩:=Ec aW.out (k:=k) (by omega) (X8.out k ae);have bt:=bE.out (by omega);have mY:Hid (∀z,ay [] wr z->(loadVar 132 ⟨gb,bo+k*8,none⟩).run prog z= .ok (.agg (aY (BW.getD k [])).toArray) z):=λz Cj=>ot z ((Cj.block gb (bS aG J.size) (by simp)).trans (J.block gb aG (by simp only[aL,aK,bC];omega)))
   have X6:own.getD k 0<256:=(Fb.out _ (by rw[aj,aD ae];exact bF ae)).2;have D8:Hid (∀z,Calls prog 155 #[((own.getD k 0:Nat):Int)] z λe w'=>e=((1080+8*own.getD k 0:Nat):Int)/\z=w'):=λz=>by
    have :=kv ((own.getD k 0:Nat):Int) z;rwa[iN,aA,show 1080+((own.getD k 0:Nat):Int)*8=((1080+8*own.getD k 0:Nat):Int) by omega] at this
   have Gd:Hid (∀z,ay [] wr z->Calls prog 182 #[b,((1080+8*own.getD k 0:Nat):Int),(aY (BW.getD k [])).toArray] z λe w'=>e= .returned (.tuple #[])/\Hid (Onto w5 b kX B (ps++(Yc++ui BW own (k+1))) w')):=λz af=>by
    have h1:=se (ax.keep af (by simp) (by simp)) (by simp only[aC,CY,aS];omega) (1080+8*own.getD k 0) (by omega) (BW.getD k []) (X8.out k ae);refine h1.mono ?_;rintro e w' ⟨W,h2⟩;refine⟨W,?_⟩;rw[aV,aV,<-Av] at h2;exact Onto.trans QB J (Onto.mono af (by omega) h2)
   rw[bl] at *;clear HP ax SD X6 ot aG bt aW aN IV;generalize ((1080+8*own.getD k 0:Nat):Int)=bk,((own.getD k 0:Nat):Int)=x,(aY (BW.getD k [])).toArray=RK at *;go_wp2_with fail;refine jW (l:=[_,_,_,_,_,_,_]) (S:=λz=>ay [] wr z) rfl ((ay.refl _ _).drew) ?_;repeat (
    (first
    |(refine aU.cons (.agg RK) (bR.load rfl 132 (.tmp 54) rfl _ rfl λz V=>mY.out z V) ?_)
    |(refine aU.cons (.int .i64 bk) (bR.call rfl 155 #[x] ?W ?h) ?_;(case W=>(intro wz;go_simp));(case h=>exact λz V=>(D8.out z).mono λe w' W=>⟨W.1,W.2▸V⟩))
    |(refine aU.cons ?_ (bR.val rfl ?h) ?_;(case h=>(intro z V;clear V;go_simp;rfl))));simp only[Act.put,ag,ah,ai])
   refine aU.done λz V=> ?_
   have uf:=ar V;clear V;go_wp2_with fail;refine Rr (Gd.out _ uf.out) λw' xd=> ?_;go_wp2_with fail;go_roundg gg;case measure=>omega
   case rel=>exact⟨k+1,by omega,by go_num,xd.out⟩
end Go.Proofs.YtimcfdnbpkiniaaGreatDoor

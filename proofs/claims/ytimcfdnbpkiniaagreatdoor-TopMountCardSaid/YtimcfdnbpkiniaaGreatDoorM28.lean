/- Lemmas. -/
import Derived.Test.YtimcfdnbpkiniaaGreatDoorM27
set_option maxHeartbeats 8000000
set_option maxRecDepth 100000
namespace Go.Proofs.YtimcfdnbpkiniaaGreatDoor
open Go.Proofs.Tryz
section
open Go.RowKit
variable{w w':World}{b f gf gl gn gp:Nat}{B X:List Int}{ps:List (Int×Int)}{T:List (bT×Value)}{own:Nat->List Nat}{d n:Int}{M:Nat->Nd}
theorem L5 (h:eK w b gp B ps)(ai:In64 (az B ps)){n:bT}(v:Value)(hB:n.B.length=13)(hR:ct n)(hK:n.K=1):
  Calls prog 142 #[b,aM n v] w (dv w (jX (az B ps) n)):=by
 have hS:0<=n.S/\n.S<=832:=by
  rcases hR.2.2 with h|h
  ·exact h.2.1
  ·omega
 have J:=vg hR hB;have HG:Hid (∀wx,ay [] w wx->∀i:Nat,i<3128->Calls prog 57 #[b,(i:Int)] wx λe w'=>e= .returned (.int .u64 (((az B ps).getD i 0).toNat:Int))/\wx=w'):=λwx hk i hi=>by
  have :=py (h.keep hk (by simp) (by simp)) (i:Int);rw[N7 hi] at this;rwa[jC (ai i).1]
 have HP:Hid (∀(r:Bool) w',(r=true↔(n.S%64≠0->n.B.getD (n.S/64).toNat 0≠0->∀j:Nat,n.S%64<=(j:Int)->j<64->rJ ((az B ps).getD (1080+8*(n.B.getD (n.S/64).toNat 0).toNat+j/8) 0).toNat (j%8)=0))->ay [] w w'->dv w (jX (az B ps) n) (.returned (.bool r)) w'):=λr w' hr hk=>⟨r,rfl,hr.trans (Vw hB hR hK).symm,hk⟩
 have z:=bh.new w (aM n v) 75;have cM:=(ay.refl [] w).alloc (.cells (aM n v) 75);generalize az B ps=X at *;generalize jX X n=pT at *;obtain⟨s,hs⟩:=cA hS.1;have c3:(w.alloc (.cells (aM n v) 75)).cell? ⟨w.heap.size,3,none⟩=some (.int .i64 (s:Int)):=by rw[z.cell,<-hs];exact(gG v hB).f3
 have hm:(s:Int).tmod 64=((s%64:Nat):Int):=rfl;have hd:(s:Int).tdiv 64=((s/64:Nat):Int):=rfl;have Tw:s<=832:=by omega
 have U:Hid (∀(r:Bool) w',(r=true↔(s%64≠0->n.B.getD (s/64) 0≠0->∀j:Nat,s%64<=j->j<64->rJ (X.getD (1080+8*(n.B.getD (s/64) 0).toNat+j/8) 0).toNat (j%8)=0))->ay [] w w'->dv w pT (.returned (.bool r)) w'):=λr w' hr hk=>HP.out r w' (hr.trans (by
  rw[hs,show((s:Int)/64).toNat=s/64 by omega];constructor
  ·intro h h0 z j hj
   exact h (by omega) z j (by omega)
  ·intro h h0 z j hj
   exact h (by omega) z j (by omega))) hk
 clear HP hs h ai hS;by_cases h0:s%64=0
 ·have HF:=ar (U.out true _ ⟨λ_ h=>absurd h0 h,λ_=>rfl⟩ cM)
  rw[h0] at hm;clear U HG z cM J h0;generalize aM n v=Z at *;go_in;go_wp2_with fail;go_ret;exact HF.out
 ·have hq:s/64<13:=by omega
  have c4:(w.alloc (.cells (aM n v) 75)).cell? ⟨w.heap.size,4+s/64,none⟩=some (.int .i64 (n.B.getD (s/64) 0)):=by rw[z.cell];exact(gG v hB).f4 _ hq
  have hy:=J (s/64);have Rv:Hid (s%64≠0):=h0;have xu:s%64<64:=iw _ (by omega);have fJ:=ar cM;generalize n.B.getD (s/64) 0=y at *;obtain⟨q,ak⟩:∃q,s/64=q:=⟨_,rfl⟩;rw[ak] at c4 hd hq;have aQ:(q:Int)<13:=by omega
  have aD:(0:Int)<=(q:Int):=by omega
  have LD:((s%64:Nat):Int)≠0:=by omega
  obtain⟨r,ah⟩:∃r,s%64=r:=⟨_,rfl⟩;rw[ah] at hm xu Rv U LD;have aF:((r:Int)==0)=false:=by simpa using LD
  clear z cM J h0 ak ah Tw LD;generalize aM n v=Z at *;by_cases V:y=0
  ·subst V
   have HF:=ar (U.out true _ ⟨λ_ _ h=>absurd rfl h,λ_=>rfl⟩ fJ.out);clear U HG hy;go_in;go_wp2_with fail;go_ret;exact HF.out
  ·obtain⟨W,rfl⟩:=cA hy.1
   rw[aG] at U;have aL:(((W:Nat):Int)==0)=false:=by simpa using V
   have aK:W<256:=by omega
   have aB:Hid (((W:Nat):Int)≠0):=V;have D8:=ar (λw=>kv (W:Int) w);rw[show iN (W:Int)=((1080+8*W:Nat):Int) by unfold iN;rw[aA];omega] at D8;have HQ:Hid (∀k:Nat,k<64->1080+8*W+k/8<3128):=λk hk=>by omega
   clear hy V;generalize 1080+8*W=Q at *;go_in;go_wp2_with fail;go_loopg [7] (64-r) (λgh s7 wx=>∃k:Nat,k+gh=64/\s7= .int .i64 (k:Int)/\Hid (ay [] w wx/\r<=k/\∀j,r<=j->j<k->rJ (X.getD (Q+j/8) 0).toNat (j%8)=0))
   case atStart=>exact⟨r,by omega,rfl,fJ.out,aH _,λj h1 h2=>by omega⟩
   case round=>
    clear c3 c4 hm hd;obtain⟨k,hk,rfl,HI⟩:=hrel;cases gk with
    |zero=>
     obtain rfl:k=64:=by omega
     have HF:=ar (U.out true _ ⟨λ_ _ _=>HI.out.2.2,λ_=>rfl⟩ HI.out.1);clear HI U HG D8 HQ;go_wp2_with fail;go_ret;exact HF.out
    |succ gg=>
     have aj:k<64:=by omega
     have xD:(k:Int)<64:=by omega
     have hp:=HQ.out k aj;obtain⟨p,G⟩:∃p,Q+k/8=p:=⟨_,rfl⟩;have nE:Hid (rJ (X.getD p 0).toNat (k%8)=0->r<=k+1/\∀j,r<=j->j<k+1->rJ (X.getD (Q+j/8) 0).toNat (j%8)=0):=λz=>⟨by have :=HI.out.2.1;omega,λj h1 h2=>by
      by_cases e:j=k
      ·rw[e,G];exact z
      ·exact HI.out.2.2 j h1 (by omega)⟩
     have jY:Hid (rJ (X.getD p 0).toNat (k%8)≠0->¬(r≠0->((W:Nat):Int)≠0->∀j:Nat,r<=j->j<64->rJ (X.getD (Q+j/8) 0).toNat (j%8)=0)):=λz hh=>z (by
      have :=hh Rv.out aB.out k HI.out.2.1 aj;rwa[G] at this)
     have ac:=ar HI.out.1;rw[G] at hp;have aO:(Q:Int)+((k/8:Nat):Int)=(p:Int):=by rw[<-G];omega
     have aP:(k:Int).tmod 8=((k%8:Nat):Int):=rfl;have Gb:(k:Int).tdiv 8=((k/8:Nat):Int):=rfl;have ax:k%8<8:=iw _ (by omega);have aI:((k%8:Nat):Int)<8:=by omega
     have Ci:(0:Int)<=((k%8:Nat):Int):=by omega
     have aC:IntKind.i64.wrap (p:Int)=(p:Int):=fS _ (by omega);have aN:wrap64 (p:Int)=(p:Int):=by unfold wrap64;omega
     clear HI HQ G;generalize k/8=d8,k%8=j8 at *;have ae:=ar (D8.out wr);go_wp2_with fail;refine C' ae.out ?_;obtain⟨af,av⟩:=hh2 (HG.out wr ac.out p hp) (Bk (X.getD p 0).toNat wr);clear D8 ae HG;generalize (X.getD p 0).toNat=WD at *;go_wp2_with fail;refine C' af.out ?_;clear af;go_wp2_with fail;refine Rr av.out λw2 ag=> ?_;obtain⟨w3,p1,p2,p3⟩:=xX (uS 0 0) (l8 WD) (bh.new w2 (pj (pD 0 0)).toArray 205);have c8:w3.cell? ⟨w2.heap.size,j8,none⟩=some (.int .u8 ((rJ WD j8:Nat):Int)):=by
      rw[p2.cell,<-uL WD j8 ax];simpa using Bj (l:=lN WD) (j:=j8) (by rw[l8];omega)
     have pq:=ar p1;rw[<-Am 0] at pq;have oI:Hid (ay [] w w3):=(ac.out.trans' ag).trans' (((ay.refl [] w2).alloc _).trans p3 (by intro x hx;rw[au] at hx;omega));have aJ:=Cm WD j8;clear av ag p1 p2 p3 ac;generalize (pj (lN WD)).toArray=ZB,rJ WD j8=bv at *;by_cases aa:bv=0
     ·subst aa
      have HN:=ar (nE.out rfl);clear nE jY U;go_wp2_with(with_reducible refine gS 205 pq.out ?_);go_roundg gg;case measure=>omega
      case rel=>exact⟨k+1,by omega,by go_num,oI.out,HN.out⟩
     ·have DY:(((bv:Nat):Int) != 0)=true:=bne_iff_ne.2 (by omega)
      have HF:=ar (U.out false _ ⟨(λh=>by cases h),λhh=>absurd hh (jY.out aa)⟩ oI.out);clear nE jY U aa;go_wp2_with(with_reducible refine gS 205 pq.out ?_);go_ret;exact HF.out
end
section
open Go.RowKit Go.Shelf
variable{w w':World}{b f gf gl gn gp:Nat}{B X:List Int}{ps:List (Int×Int)}{T:List (bT×Value)}{own:Nat->List Nat}{d n:Int}{M:Nat->Nd}
attribute [local go_sem] j5
theorem Wm (h:rI X T own){xs:List GX}(z:xs.map lW=kO T 32):(∀x∈xs,tB x.i x.n (lX T x.i))↔yr T:=by
 constructor
 ·intro U i hi
  rcases h.form i with ⟨J,-,-⟩|⟨-,V,-⟩
  ·have G:(i,nT T i)∈kO T 32:=o8.2 ⟨hi,rfl,J⟩
   rw[<-z] at G;obtain⟨x,W,e⟩:=bH.1 G;have :=U x W
   injection e with e1 e2
   rwa[e1,e2] at this
  ·rw[V]
   exact⟨(λh=>by cases h),(λh=>by cases h)⟩
 ·intro U x W
  have G:lW x∈kO T 32:=by rw[<-z];exact bH.2 ⟨x,W,rfl⟩
  obtain⟨J,V,-⟩:=o8.1 G;have :=U x.i J;rwa[<-show x.n=nT T x.i from V] at this
theorem Fa (h:gU w b gp B ps T own):
  Calls prog 95 #[b] w (dv w (yr T)):=by
 have bl:=N9;have rH:=dA;obtain⟨Z0,Dd⟩:∃Z0,aM ck (.slice none 0 0)=Z0:=⟨_,rfl⟩;have Lb:Hid (Z0.size=18):=by show _=_;rw[<-Dd];rfl
 rw[Dd] at rH;clear Dd;have HS:=ar h;clear h;generalize YA:(dL (dR 32 λ_=>0)).toArray=ZC at *;have aW:=ar YA;clear YA;have Ra:Hid (∀z,ay [] w z->Calls prog 137 #[b] z λe w'=>e=(dL (dR 32 (lX T))).toArray/\ay [] z w'):=λz G=>Ii (HS.out.keep0 G)
 have aC:=(ay.refl [] w).alloc (.cells #[false] 4);obtain⟨aJ,jH,EN⟩:=hh3 (Ra.out _ aC) aC (bh.new w #[false] 4);clear Ra aC;obtain⟨ZR,aA⟩:∃ZR,(dL (dR 32 (lX T))).toArray=ZR:=⟨_,rfl⟩;rw[aA] at aJ;have ba:=ar aA;clear aA;refine(callsIn_wide (n:=5)).1 (callsIn_of_wp_marks func95 rfl trivial (wpIn_wide.2 ?_) rfl);simp only[ntmps95,bN,cu,cD,Nat.reduceAdd,Nat.reduceSub,fZ,gi,iH,gQ,bQ,ia];go_wp2_with fail;refine Rr aJ.out λw2 ac=> ?_;obtain⟨w3,p1,p2,p3⟩:=Kf (f':=lX T) (show bh (w2.alloc (.cells ZC 189)) w2.heap.size (dL (dR 32 λ_=>0)).toArray 189 by rw[aW.out];exact bh.new w2 _ _);rw[ba.out] at p1;obtain⟨pq,qK⟩:=hh2 p1 p2;have nD:ay [] w2 w3:=((ay.refl [] w2).alloc _).trans p3 (by intro x U;rw[au] at U;omega);obtain⟨af,oI⟩:=hh2 (EN.out.keep (ac.trans' nD) (by simp)) (jH.out.trans' (ac.trans' nD));clear p1 p2 p3 nD ac aJ EN jH;have bf:=qK.out.lt;go_wp2_with(with_reducible refine gS 189 pq.out ?_);generalize w2.heap.size=cb at *;refine Rr (RO b _) λw4 aj=> ?_;go_wp2_with fail;rw[<-aj];have bo:w4.heap.size=w3.heap.size+1:=by rw[aj];simp
 have wI:ay [] w3 w4:=by rw[aj];exact(ay.refl [] w3).alloc _
 have Mh:bh w4 cb (dL (dR 32 (lX T))).toArray 189 :=qK.out.keep wI (by simp);have jL:bh w4 w.heap.size #[false] 4 :=af.out.keep wI (by simp);have sf:bh w4 w3.heap.size #[b] 49 :=by rw[aj];exact bh.new w3 _ _
 have ak:ay [] w w4:=oI.out.trans' wI;have aP:=HS.out.keep0 ak;have bt:=HS.out.lt;have bc:=oI.out.size;have bn:w.heap.size≠cb:=λe=>by
  have V:w3.heap[cb]? =some (.cells #[false] 4 (0,0)):=by rw[<-e];exact af.out
  have h3:=Option.some.inj (V.symm.trans qK.out)
  injection h3 with q1 q2
  exact absurd q2 (by decide)
 have wW:=Dy (n:=5-1) (by omega) aP sf (C:=[w.heap.size]) (λk G=>by rw[au] at G;subst G;have :=af.out.lt;omega);have az:∀xs:List GX,xs.map lW=kO T 32->((∀x∈xs,tB x.i x.n (lX T x.i))↔yr T):=λxs h=>Wm HS.out.gots h
 have aF:∀i,(nT T i).F≠0->(nT T i).K=1\/(nT T i).K=2:=λi hi=>by
  rcases HS.out.gots.form i with ⟨-,-,V⟩|⟨V,-⟩
  ·exact V.right.2.2.imp (·.1) (·.1)
  ·exact absurd V hi
 have br:=af.out.lt;clear aj aP sf qK af oI pq;refine(wpIn_wide (n:=5)).1 ?_;refine tQ (by omega) (gf:= 168) (lb:= #[.pointer (some ⟨w3.heap.size,0,none⟩)]) rfl (enters_of func168 (by kernel_rfl) rfl) wW (λk G=>by rw[au] at G;subst G;omega) (λ_=>rfl)
  (λJ A=>ay [] w A/\bh A cb (dL (dR 32 (lX T))).toArray 189/\bh A w.heap.size #[false] 4/\∀x∈J,tB x.i x.n (lX T x.i))
  (λc J A=>c= .ret/\ay [] w A/\bh A w.heap.size #[false] 4/\∃x∈J,¬tB x.i x.n (lX T x.i))
  (λJ A A' h hb=>⟨h.1.below_trans hb (by omega),h.2.1.low hb (by omega),h.2.2.1.low hb (by omega),h.2.2.2⟩)
  (λc J A A' h hb=>⟨h.1,h.2.1.below_trans hb (by omega),h.2.2.1.low hb (by omega),h.2.2.2⟩)
  ⟨ak,Mh,jL,λx U=>by cases U⟩
  (λl x A A' h G=>h.keep G λk G=>by rw[au] at G;omega)
  (λx a' W=>∃g5,bh W g5 (aM x.n x.v) 75/\w4.heap.size<=g5/\a'={ tmps:= #[.pointer (some ⟨b,0,none⟩),undef,.pointer (some ⟨w.heap.size,0,none⟩),.pointer (some ⟨cb,0,none⟩),.int .i64 (x.i:Int),.pointer (some ⟨g5,0,none⟩),.pointer (some ⟨b,0,none⟩),.agg ZR,.pointer (some ⟨b,0,none⟩),.func (.func 168) #[] #[w3.heap.size],.int .i64 (x.i:Int),.agg (aM x.n x.v),undef,undef,undef,undef,undef,undef,undef],defers:=[] })
  (λl x a' A A' _ hr h G=>by
   obtain⟨g5,V,h2,h3⟩:=h;obtain⟨r,hr⟩:=hr;refine⟨g5,V.keep G λhm=> ?_,h2,h3⟩;rw[au] at hm;subst hm;rw[V] at hr;cases hr)
  ?assign (λl x A A' h G=>h.keep G (by simp)) ?body ?done ?stop
 case assign=>
  rintro l x W K ⟨V,h2,h3,h4,g,h5,h6⟩ bj hK;obtain⟨w5,p1,p2,p3⟩:=cz (n:=x.n) (v:=x.v) (bh.new W Z0 75) Lb.out h4 h6.one;have rA:=ar p1;have lh:ay [] W w5:=((ay.refl [] W).alloc _).trans p3 (by intro x U;rw[au] at U;omega);have HF:=ar (hK _ w5 lh ⟨W.heap.size,p2,by omega,rfl⟩);clear p1 p2 p3 lh hK V h2 h3 h4 h5 h6;unfold Wk;generalize aM x.n x.v=ZN at *
  gi_wp2_with ((with_reducible show wpListIn _ _ _ _ _ (⟨_,.store 75 (.tmp 5) (.tmp 11),_,_,_,_⟩::_) _ _);refine jO (r:=some l) rfl 75 (.tmp 5) (.tmp 11) rfl _ rfl _ rfl _ rA.out ?_)
  exact HF.out
 case body=>
  rintro l J x a' W hl bb ⟨kg,Mq,AY,aa⟩ hN ⟨aX,aD,aN,aR,g,hg,hE⟩ ⟨g5,rT,bg,rfl⟩;have aB:=aF x.i (by rw[<-aD];exact aN);rw[<-aD] at aB;have bp:g5≠w.heap.size:=by have :=ak.size;omega
  obtain⟨pb,av⟩:∃pb:Bool,(pb=true↔tB x.i x.n (lX T x.i)):=by
   by_cases hp:tB x.i x.n (lX T x.i)
   ·exact⟨true,λ_=>hp,λ_=>rfl⟩
   ·exact⟨false,(λh=>by cases h),λh=>absurd h hp⟩
  have aS:Hid (∀z,Calls prog 139 #[(x.i:Int),aM x.n x.v,(lX T x.i:Int)] z λe w'=>e=pb/\ay [] z w'):=λz=>(Vx x.v aR aB x.i (lX T x.i) z).mono λe w' ⟨r,V,h2,h3⟩=>⟨by rw[V,Bool.eq_iff_iff.2 (h2.trans av.symm)],h3⟩
  have uT:Hid (∀z,ay [] W z->(loadVar 75 (g5:Nat)).run prog z= .ok (.agg (aM x.n x.v)) z):=λz G=>cg (rT.keep G (by simp)) aR
  have Mk:Hid (∀z,ay [] W z->z.cell? ⟨cb,x.i,none⟩=some (.int .i64 (lX T x.i:Int))):=λz G=>LK (Mq.keep G (by simp)) aX
  have jD:(x.i:Int)<32:=by omega
  have bq:(0:Int)<=(x.i:Int):=by omega
  have JI:Hid (∀z,ay [] W z->z.cell? w.heap.size=some (.bool false)/\z.frozen? w.heap.size=false):=λz G=>by
   have hb:=AY.keep G (by simp);exact⟨by rw[hb.cell];rfl,hb.frozen 0⟩
  have nE:Hid (pb=true->∀z,ay [] W z->vN [w.heap.size] (λJ A=>ay [] w A/\bh A cb (dL (dR 32 (lX T))).toArray 189/\bh A w.heap.size #[false] 4/\∀x∈J,tB x.i x.n (lX T x.i)) (λc J A=>c= .ret/\ay [] w A/\bh A w.heap.size #[false] 4/\∃x∈J,¬tB x.i x.n (lX T x.i)) (J++[x]) W .normal { tmps:= #[],defers:=[] } z):=λhp z G=>
   ⟨G.mono (by simp),kg.trans' G,Mq.keep G (by simp),AY.keep G (by simp),λy hy=>by
    rcases aT.1 hy with hy|hy
    ·exact aa y hy
    ·rw[au] at hy
     subst hy;exact av.1 hp⟩
  have jY:Hid (pb=false->∀z,ay [] W z->vN [w.heap.size] (λJ A=>ay [] w A/\bh A cb (dL (dR 32 (lX T))).toArray 189/\bh A w.heap.size #[false] 4/\∀x∈J,tB x.i x.n (lX T x.i)) (λc J A=>c= .ret/\ay [] w A/\bh A w.heap.size #[false] 4/\∃x∈J,¬tB x.i x.n (lX T x.i)) (J++[x]) W .ret { tmps:= #[],defers:=[] } (z.setCell ⟨w.heap.size,0,none⟩ (.bool false))):=λhp z G=>
   ⟨(G.mono (l':=[w.heap.size]) (by simp)).setCell (.inl (by simp)) _,rfl,(kg.trans' G).setCell (.inr (aH _)) _,(AY.keep G (by simp)).set 0 (.bool false),x,by simp,λh=>by rw[av.2 h] at hp;cases hp⟩
  have uf:Hid (ay [] W W.drew):=(ay.refl _ _).drew;clear kg Mq AY aa hN aD aN hE rT aB av az aF Mh jL ak wW;generalize aM x.n x.v=ZN,(lX T x.i:Int)=cI at *;refine wpIn_block (wpIn_seq_k λK aV=> ?_);refine Dx (r:=some l) (S:=λz=>ay [] W z) (by kernel_rfl) (by rintro⟨a,w,h⟩;exact h) (by kernel_rfl) (by kernel_rfl) (λd _ _ _ _ h=>by cases d<;>exact h) uf.out (by kernel_rfl) ?_;repeat (
   (first
   |(refine aU.cons (.bool pb) (bR.call rfl 139 #[(x.i:Int),ZN,cI] ?he ?h) ?_;(case he=>(intro wz;go_simp));(case h=>exact λz U=>(aS.out z).mono λe w' he=>⟨he.1,U.trans' he.2⟩))
   |(refine aU.cons (.agg ZN) (bR.load rfl 75 (.tmp 5) rfl _ rfl λz U=>uT.out z U) ?_)
   |(refine aU.cons ?_ (bR.val rfl ?h) ?_;(case h=>(intro z U;have bk:=Mk.out z U;clear U;go_simp;rfl))));simp only[Act.put,ag,ah,ai])
  refine aU.done λz U=> ?_
  refine aV _ _ ?_;obtain⟨aG,Qs⟩:=hh2 (λh=>nE.out h z U) (λh=>jY.out h z U);obtain⟨aY,aZ⟩:=JI.out z U;clear aV U nE jY JI Mk uT aS uf;cases pb
  ·have HF:=ar (Qs.out rfl)
   clear aG Qs
   gi_wp2
   exact HF.out
  ·have HF:=ar (aG.out rfl)
   clear aG Qs
   gi_wp2
   exact HF.out
 case stop=>
  rintro D c J W hD ax ⟨rfl,kg,AY,x,U,aQ⟩ JS;have aK:¬yr T:=λh=>aQ (by
   obtain⟨V,h2,-⟩:=o8.1 (ax.2 x U);have :=h x.i V;rwa[<-show x.n=nT T x.i from h2] at this)
  have aI:=ar JS;have qV:Hid (∀W',ay [D] W W'->W'.cell? w.heap.size=some (.bool false)/\dv w (yr T) (.returned false) W'):=λW' G=>⟨by rw[(AY.keep G (by rw[au];omega)).cell];rfl,false,rfl,⟨(λh=>by cases h),λh=>absurd h aK⟩,kg.trans G (by intro y hy;rw[au] at hy;omega)⟩
  clear kg AY aQ U ax JS aK;refine wpIn_wide.2 ?_;go_wp2_with fail;refine mD [D] W (by simp) (λD' ae=>by rw[au] at ae;subst ae;exact aI.out) λW' G=> ?_
  obtain⟨V,h2⟩:=qV.out W' G;exact⟨.bool false,by simp[results,results95,go_sem,V],h2⟩
 case done=>
  rintro D xs W hD aO ⟨kg,Mq,AY,aa⟩ JS;have hr:=(az xs aO).1 aa;have aY:W.cell? w.heap.size=some (.bool false):=by rw[AY.cell];rfl
  have aZ:=AY.frozen 0;have aL:=AY.set 0 (.bool true);have ac:ay [w.heap.size] W (W.setCell ⟨w.heap.size,0,none⟩ (.bool true)):=(ay.refl _ _).setCell (.inl (by simp)) _;have aI:Hid ((W.setCell ⟨w.heap.size,0,none⟩ (.bool true)).heap[D]? =some (.deferred (some []))):=(ac.block D (Array.getElem?_eq_some_iff.1 JS).1 (by rw[au];omega)).trans JS;have qV:Hid (∀W',ay [D] (W.setCell ⟨w.heap.size,0,none⟩ (.bool true)) W'->W'.cell? w.heap.size=some (.bool true)/\dv w (yr T) (.returned true) W'):=λW' G=>⟨by rw[(aL.keep G (by rw[au];omega)).cell];rfl,true,rfl,⟨λ_=>hr,λ_=>rfl⟩,(kg.trans ac (by intro y hy;rw[au] at hy;omega)).trans G (by intro y hy;rw[au] at hy;omega)⟩
  clear kg Mq AY aa JS hr aL ac aO az aF Mh jL ak wW;go_wp2_with fail;refine mD [D] _ (by simp) (λD' ae=>by rw[au] at ae;subst ae;exact aI.out) λW' G=> ?_
  obtain⟨V,h2⟩:=qV.out W' G;exact⟨.bool true,by simp[results,results95,go_sem,V],h2⟩
attribute [local go_sem] j5
theorem Wn (h:rI X T own){xs:List GX}(z:xs.map lW=kO T 32):(∀x∈xs,jX X x.n)↔yt X T:=by
 constructor
 ·intro U i hi
  rcases h.form i with ⟨J,-,-⟩|⟨-,V,-⟩
  ·have G:(i,nT T i)∈kO T 32:=o8.2 ⟨hi,rfl,J⟩
   rw[<-z] at G;obtain⟨x,W,e⟩:=bH.1 G;have :=U x W
   injection e with e1 e2
   rwa[e2] at this
  ·rw[V]
   exact λh=>by cases h
 ·intro U x W
  have G:lW x∈kO T 32:=by rw[<-z];exact bH.2 ⟨x,W,rfl⟩
  obtain⟨J,V,-⟩:=o8.1 G;have :=U x.i J;rwa[<-show x.n=nT T x.i from V] at this
theorem Ji (h:gU w b gp B ps T own):
  Calls prog 98 #[b] w (dv w (yt (az B ps) T)):=by
 have rH:=dA;obtain⟨Z0,Dd⟩:∃Z0,aM ck (.slice none 0 0)=Z0:=⟨_,rfl⟩;have Lb:Hid (Z0.size=18):=by show _=_;rw[<-Dd];rfl
 rw[Dd] at rH;clear Dd;have HS:=ar h;clear h;have ai:((w.alloc (.cells #[b] 49)).alloc (.cells #[false] 4)).cell? w.heap.size=some (.pointer (some ⟨b,0,none⟩)):=by
  rw[((bh.new w #[b] 49).alloc _).cell];rfl
 refine(callsIn_wide (n:=5)).1 (callsIn_of_wp_marks func98 rfl trivial (wpIn_wide.2 ?_) rfl);simp only[ntmps98,bN,cu,cD,Nat.reduceAdd,Nat.reduceSub,fZ,gi,iH,gQ,bQ,ia];go_wp2_with fail;refine Rr (RO b _) λw4 V=> ?_;go_wp2_with fail;rw[<-V];have aS:w4.heap.size=w.heap.size+3:=by rw[V];simp
 have aj:bh w4 w.heap.size #[b] 49 :=by
  rw[V];exact((bh.new w _ _).alloc _).alloc _
 have jL:bh w4 (w.heap.size+1) #[false] 4 :=by
  have :=(bh.new (w.alloc (.cells #[b] 49)) #[false] 4).alloc (.cells #[b] 49);rw[aX] at this;rw[V];exact this
 have sf:bh w4 (w.heap.size+1+1) #[b] 49 :=by
  have :=bh.new ((w.alloc (.cells #[b] 49)).alloc (.cells #[false] 4)) #[b] 49;rw[aX,aX] at this;rw[V];exact this
 have ac:ay [] w w4:=by
  rw[V];exact(((ay.refl [] w).alloc _).alloc _).alloc _
 have aI:=HS.out.keep0 ac;have aV:=HS.out.lt;have wW:=Dy (n:=5-1) (by omega) aI sf (C:=[w.heap.size+1]) (λk z=>by rw[au] at z;subst z;omega);have af:∀xs:List GX,xs.map lW=kO T 32->((∀x∈xs,jX (az B ps) x.n)↔yt (az B ps) T):=λxs h=>Wn HS.out.gots h
 have ak:∀i,(nT T i).F≠0->ct (nT T i):=λi hi=>by
  rcases HS.out.gots.form i with ⟨-,-,U⟩|⟨U,-⟩
  ·exact U.right
  ·exact absurd U hi
 have aK:=HS.out.w64;clear V aI sf ai;generalize hX:az B ps=X at *;refine(wpIn_wide (n:=5)).1 ?_;refine tQ (by omega) (gf:= 168) (lb:= #[.pointer (some ⟨w.heap.size+1+1,0,none⟩)]) rfl (enters_of func168 (by kernel_rfl) rfl) wW (λk z=>by rw[au] at z;subst z;omega) (λ_=>rfl)
  (λG A=>ay [] w A/\bh A w.heap.size #[b] 49/\bh A (w.heap.size+1) #[false] 4/\∀x∈G,jX X x.n)
  (λc G A=>c= .ret/\ay [] w A/\bh A (w.heap.size+1) #[false] 4/\∃x∈G,¬jX X x.n)
  (λG A A' h hb=>⟨h.1.below_trans hb (by omega),h.2.1.low hb (by omega),h.2.2.1.low hb (by omega),h.2.2.2⟩)
  (λc G A A' h hb=>⟨h.1,h.2.1.below_trans hb (by omega),h.2.2.1.low hb (by omega),h.2.2.2⟩)
  ⟨ac,aj,jL,λx hx=>by cases hx⟩
  (λl x A A' h z=>h.keep z λk z=>by rw[au] at z;omega)
  (λx a' W=>∃g5,bh W g5 (aM x.n x.v) 75/\w4.heap.size<=g5/\a'={ tmps:= #[.pointer (some ⟨b,0,none⟩),.pointer (some ⟨w.heap.size,0,none⟩),.pointer (some ⟨w.heap.size+1,0,none⟩),undef,.pointer (some ⟨g5,0,none⟩),.pointer (some ⟨b,0,none⟩),.func (.func 168) #[] #[(w.heap.size+1+1:Nat)],.int .i64 (x.i:Int),.agg (aM x.n x.v),undef,undef,undef,undef,undef,undef,undef,undef,undef],defers:=[] })
  (λl x a' A A' _ hr h z=>by
   obtain⟨g5,U,h2,h3⟩:=h;obtain⟨r,hr⟩:=hr;refine⟨g5,U.keep z λhm=> ?_,h2,h3⟩;rw[au] at hm;subst hm;rw[U] at hr;cases hr)
  ?assign (λl x A A' h z=>h.keep z (by simp)) ?body ?done ?stop
 case assign=>
  rintro l x W K ⟨U,h2,h3,h4,g,h5,h6⟩ aQ hK;obtain⟨w5,p1,p2,p3⟩:=cz (n:=x.n) (v:=x.v) (bh.new W Z0 75) Lb.out h4 h6.one;have rA:=ar p1;have lh:ay [] W w5:=((ay.refl [] W).alloc _).trans p3 (by intro x hx;rw[au] at hx;omega);have HF:=ar (hK _ w5 lh ⟨W.heap.size,p2,by omega,rfl⟩);clear p1 p2 p3 lh hK U h2 h3 h4 h5 h6;unfold Wk;generalize aM x.n x.v=ZN at *
  gi_wp2_with ((with_reducible show wpListIn _ _ _ _ _ (⟨_,.store 75 (.tmp 4) (.tmp 8),_,_,_,_⟩::_) _ _);refine jO (r:=some l) rfl 75 (.tmp 4) (.tmp 8) rfl _ rfl _ rfl _ rA.out ?_)
  exact HF.out
 case body=>
  rintro l G x a' W hl aO ⟨kg,Mq,AY,J⟩ hN ⟨aR,av,aG,ax,g,hg,hE⟩ ⟨g5,rT,aP,rfl⟩;have hR:=ak x.i (by rw[<-av];exact aG);rw[<-av] at hR;have c1:W.cell? ⟨g5,1,none⟩=some (.int .i64 x.n.K):=by rw[rT.cell];exact(gG _ ax).f1
  have c0:W.cell? w.heap.size=some (.pointer (some ⟨b,0,none⟩)):=by rw[Mq.cell];rfl
  have uT:=ar (cg rT ax);have ah:Hid (x.n.K=1->Calls prog 142 #[b,aM x.n x.v] W (dv W (jX X x.n))):=λz=>by
   have :=L5 (HS.out.sh.keep kg (by simp) (by simp)) HS.out.w64 x.v ax hR z;rwa[hX] at this
  have aB:Hid (x.n.K≠1->jX X x.n):=λU h2=>absurd h2 U
  have JI:Hid (∀wx,ay [] W wx->wx.cell? (w.heap.size+1:Nat)=some (.bool false)/\wx.frozen? (w.heap.size+1:Nat)=false):=λwx z=>by
   have hb:=AY.keep z (by simp);exact⟨by rw[hb.cell];rfl,hb.frozen 0⟩
  have nE:Hid (jX X x.n->∀wx,ay [] W wx->vN [w.heap.size+1] (λG A=>ay [] w A/\bh A w.heap.size #[b] 49/\bh A (w.heap.size+1) #[false] 4/\∀x∈G,jX X x.n) (λc G A=>c= .ret/\ay [] w A/\bh A (w.heap.size+1) #[false] 4/\∃x∈G,¬jX X x.n) (G++[x]) W .normal { tmps:= #[],defers:=[] } wx):=λhp wx z=>
   ⟨z.mono (by simp),kg.trans' z,Mq.keep z (by simp),AY.keep z (by simp),λy hy=>by
    rcases aT.1 hy with hy|hy
    ·exact J y hy
    ·rw[au] at hy
     subst hy;exact hp⟩
  have jY:Hid (¬jX X x.n->∀wx,ay [] W wx->vN [w.heap.size+1] (λG A=>ay [] w A/\bh A w.heap.size #[b] 49/\bh A (w.heap.size+1) #[false] 4/\∀x∈G,jX X x.n) (λc G A=>c= .ret/\ay [] w A/\bh A (w.heap.size+1) #[false] 4/\∃x∈G,¬jX X x.n) (G++[x]) W .ret { tmps:= #[],defers:=[] } (wx.setCell ⟨w.heap.size+1,0,none⟩ (.bool false))):=λhp wx z=>
   ⟨(z.mono (l':=[w.heap.size+1]) (by simp)).setCell (.inl (by simp)) _,rfl,(kg.trans' z).setCell (.inr (by simp)) _,(AY.keep z (by simp)).set 0 (.bool false),x,by simp,hp⟩
  clear kg Mq AY J hN av aG hE rT af ak aj jL ac wW hR hX aK HS;generalize aM x.n x.v=ZN,aL:x.n.K=K at *;by_cases SA:K=1
  ·subst SA
   have aA:=ar (ah.out rfl);clear ah aB aL
   gi_wp2_with ((with_reducible show wpListIn _ _ _ _ _ (⟨_,.load 75 (.tmp 4),_,_,_,_⟩::_) _ _);refine pZ (r:=some l) rfl 75 (.tmp 4) rfl _ rfl _ uT.out ?_)
   refine⟨trivial,CallsIn.inRound l (callsIn_wide.2 (aA.out.mono ?_))⟩;rintro e w6 ⟨r,rfl,hr,jv⟩;obtain⟨ai,aN⟩:=JI.out w6 jv;cases r
   ·have HF:=ar (jY.out (λh=>by cases hr.2 h) w6 jv)
    clear nE jY JI hr jv aA
    gi_wp2
    exact HF.out
   ·have HF:=ar (nE.out (hr.1 rfl) w6 jv)
    clear nE jY JI hr jv aA
    gi_wp2
    exact HF.out
  ·have aU:(K==1)=false:=by simpa using SA
   have HF:=ar (nE.out (aB.out SA) W (ay.refl _ _));clear nE jY JI ah aB SA
   gi_wp2
   refine⟨trivial,?_⟩
   gi_wp2
   exact HF.out
 case stop=>
  rintro D c G W hD ae ⟨rfl,kg,AY,x,hx,aJ⟩ JS;have aD:¬yt X T:=λh=>aJ (by
   obtain⟨U,h2,-⟩:=o8.1 (ae.2 x hx);have :=h x.i U;rwa[<-show x.n=nT T x.i from h2] at this)
  have aC:=ar JS;have qV:Hid (∀W',ay [D] W W'->W'.cell? (w.heap.size+1:Nat)=some (.bool false)/\dv w (yt X T) (.returned false) W'):=λW' z=>⟨by rw[(AY.keep z (by rw[au];omega)).cell];rfl,false,rfl,⟨(λh=>by cases h),λh=>absurd h aD⟩,kg.trans z (by intro y hy;rw[au] at hy;omega)⟩
  clear kg AY aJ hx ae JS aD;refine wpIn_wide.2 ?_;go_wp2_with fail;refine mD [D] W (by simp) (λD' aa=>by rw[au] at aa;subst aa;exact aC.out) λW' z=> ?_
  obtain⟨U,h2⟩:=qV.out W' z;exact⟨.bool false,by simp[results,results98,go_sem,U],h2⟩
 case done=>
  rintro D xs W hD aH ⟨kg,Mq,AY,J⟩ JS;have hr:=(af xs aH).1 J;have ai:W.cell? (w.heap.size+1:Nat)=some (.bool false):=by rw[AY.cell];rfl
  have aN:=AY.frozen 0;have aF:=AY.set 0 (.bool true);have ag:ay [w.heap.size+1] W (W.setCell ⟨w.heap.size+1,0,none⟩ (.bool true)):=(ay.refl _ _).setCell (.inl (by simp)) _;have aC:Hid ((W.setCell ⟨w.heap.size+1,0,none⟩ (.bool true)).heap[D]? =some (.deferred (some []))):=(ag.block D (Array.getElem?_eq_some_iff.1 JS).1 (by rw[au];omega)).trans JS;have qV:Hid (∀W',ay [D] (W.setCell ⟨w.heap.size+1,0,none⟩ (.bool true)) W'->W'.cell? (w.heap.size+1:Nat)=some (.bool true)/\dv w (yt X T) (.returned true) W'):=λW' z=>⟨by rw[(aF.keep z (by rw[au];omega)).cell];rfl,true,rfl,⟨λ_=>hr,λ_=>rfl⟩,(kg.trans ag (by intro y hy;rw[au] at hy;omega)).trans z (by intro y hy;rw[au] at hy;omega)⟩
  clear kg Mq AY J JS hr aF ag aH af ak aj jL ac wW hX aK HS;go_wp2_with fail;refine mD [D] _ (by simp) (λD' aa=>by rw[au] at aa;subst aa;exact aC.out) λW' z=> ?_
  obtain⟨U,h2⟩:=qV.out W' z;exact⟨.bool true,by simp[results,results98,go_sem,U],h2⟩
end
section
open Go.RowKit
variable{w w':World}{b f gf gl gn gp:Nat}{B X:List Int}{ps:List (Int×Int)}{T:List (bT×Value)}{own:Nat->List Nat}{d n:Int}{M:Nat->Nd}
theorem Ij (h:gU w b gp B ps T own):
  Calls prog 94 #[b] w (dv w (N6 (az B ps) T)):=by
 have rH:=dA;obtain⟨Z0,Dd⟩:∃Z0,aM ck (.slice none 0 0)=Z0:=⟨_,rfl⟩;have Lb:Hid (Z0.size=18):=by show _=_;rw[<-Dd];rfl
 rw[Dd] at rH;clear Dd;have HG:Hid (Calls prog 30 #[b,(0:Int)] w (za w (az B ps) T own 0)):=h.get (i:=0) (by omega);have Ra:Hid (∀G,ay [] w G->Calls prog 137 #[b] G λe w'=>e=(dL (dR 32 (lX T))).toArray/\ay [] G w'):=λG hk=>Ii (h.keep0 hk)
 have zX:Hid (∀G,ay [] w G->∀i:Nat,i<32->Calls prog 59 #[b,(i:Int)] G λe w'=>e=(decide (dS (az B ps) (i:Int)))/\ay [] G w'):=λG hk i hi=>by
  have :=Fl (h.keep0 hk).sh (i:Int);rwa[show decide ((0<=(i:Int)/\(i:Int)<32)/\dS (az B ps) (i:Int))=decide (dS (az B ps) (i:Int)) by rw[decide_eq_decide];exact⟨λh=>h.2,λh=>⟨⟨by omega,by omega⟩,h⟩⟩] at this
 have HP:Hid (∀(r:Bool) w',(r=true↔((nT T 0).K=2/\∀i:Nat,i<32->0<lX T i->¬dS (az B ps) (i:Int)))->ay [] w w'->dv w (N6 (az B ps) T) (.returned (.bool r)) w'):=λr w' hr hk=>⟨r,rfl,hr,hk⟩
 have U:Hid (∀i,i<32->(dL (dR 32 (lX T))).toArray[i]? =some (.int .i64 (lX T i:Int))):=λi hi=>yu hi
 clear h;generalize N6 (az B ps) T=pP at *;generalize az B ps=X,(dL (dR 32 (lX T))).toArray=ZR at *;go_in;go_wp2_with fail;refine HG.out.mono ?_;rintro e w3 ⟨v,g,va,ga,r,rfl,hB,hE,hg,hO,xh,aa,hr⟩;obtain⟨w4,p1,p2,p3⟩:=cz (n:=nT T 0) (v:=v) (bh.new w3 Z0 75) Lb.out hB hE.one;have tT:=ar p1;have qb:Hid (ay [] w w4):=aa.trans' (((ay.refl [] w3).alloc _).trans p3 (by intro x hx;rw[au] at hx;omega));have c1:w4.cell? ⟨w3.heap.size,1,none⟩=some (.int .i64 (nT T 0).K):=by rw[p2.cell];exact(gG _ hB).f1
 clear hB hE hg hO xh aa hr p1 p2 p3 HG;generalize aM (nT T 0) v=ZN,hK:(nT T 0).K=K at *;by_cases J:K=2
 ·subst J
  have Gz:=ar (Ra.out _ qb.out);clear Ra;go_wp2_with(with_reducible refine gS 75 tT.out ?_);refine Rr Gz.out λw5 lh=> ?_;have qU:=ar (qb.out.trans' lh);clear lh Gz tT c1 qb;go_wp2_with fail;go_loopg [19] 32 (λgh s19 G=>∃k:Nat,k+gh=32/\s19= .int .i64 (k:Int)/\Hid (ay [] w G/\∀i:Nat,i<k->0<lX T i->¬dS X (i:Int)))
  case atStart=>exact⟨0,by omega,rfl,qU.out,λi hi=>by omega⟩
  case round=>
   clear qU;obtain⟨k,hk,rfl,HI⟩:=hrel;cases gk with
   |zero=>
    obtain rfl:k=32:=by omega
    have HF:=ar (HP.out true _ ⟨λ_=>⟨(by first|trivial|rfl),HI.out.2⟩,λ_=>rfl⟩ HI.out.1);clear HI HP zX U;go_wp2_with fail;go_ret;exact HF.out
   |succ gg=>
    have xD:(k:Int)<32:=by omega
    have vB:k<32:=by omega
    have Iu:=mb 189 3 32 .i64 ZR k _ underlying189 underlying3 oU vB (U.out k vB);obtain⟨W,V,CZ⟩:=hh3 (zX.out _ HI.out.1 k vB) HI.out.2 HI.out.1;have nE:Hid ((0<lX T k->¬dS X (k:Int))->∀i:Nat,i<k+1->0<lX T i->¬dS X (i:Int)):=λhh i hi=>by
     by_cases e:i=k
     ·rw[e];exact hh
     ·exact V.out i (by omega)
    have jY:Hid (¬(0<lX T k->¬dS X (k:Int))->¬((2:Int)=2/\∀i:Nat,i<32->0<lX T i->¬dS X (i:Int))):=λhh ha=>hh (ha.2 k vB)
    clear HI zX U V;generalize lX T k=z at *;by_cases hz:0<z
    ·have ae:(0:Int)<(z:Int):=by omega
     by_cases hf:dS X (k:Int)
     ·rw[bu hf] at W
      have ac:=ar (jY.out λh=>h hz hf);clear nE jY hf hz;go_wp2_with fail;refine Rr W.out λw6 jv=> ?_;have HF:=ar (HP.out false _ ⟨(λh=>by cases h),λh=>absurd h ac.out⟩ (CZ.out.trans' jv));clear jv W CZ ac HP;go_wp2_with fail;go_ret;exact HF.out
     ·rw[aQ hf] at W
      have HN:=ar (nE.out λ_=>hf);clear nE jY hf hz;go_wp2_with fail;refine Rr W.out λw6 jv=> ?_;have uB:=ar (CZ.out.trans' jv);clear jv W CZ;go_wp2_with fail;go_roundg gg;case measure=>omega
      case rel=>exact⟨k+1,by omega,by go_num,uB.out,HN.out⟩
    ·have ae:¬(0:Int)<(z:Int):=by omega
     have HN:=ar (nE.out λh=>absurd h hz);obtain rfl:z=0:=by omega
     clear nE jY hz W;go_wp2_with fail;go_roundg gg;case measure=>omega
     case rel=>exact⟨k+1,by omega,by go_num,CZ.out,HN.out⟩
 ·have hb:(K != 2)=true:=bne_iff_ne.2 J
  have HF:=ar (HP.out false _ ⟨(λh=>by cases h),λh=>absurd h.1 J⟩ qb.out);clear Ra zX HP J U;go_wp2_with(with_reducible refine gS 75 tT.out ?_);go_ret;exact HF.out
def Dz (w:World) (P:Nat->Prop) (e:Ending) (w':World):Prop:=∃k:Nat,e= .returned (.tuple #[(k:Int),(decide (k=0))])/\LJ P k/\k<=7/\ay [] w w'
theorem Wo (w:World):Calls prog 43 #[] w λe w'=>e= .returned (.slice w.heap.size 7 7)/\ay [] w w'/\
  w'.cell? w.heap.size=some (.func (.func 92) #[] #[])/\w'.cell? ⟨w.heap.size,1,none⟩=some (.func (.func 93) #[] #[])/\w'.cell? ⟨w.heap.size,2,none⟩=some (.func (.func 94) #[] #[])/\
  w'.cell? ⟨w.heap.size,3,none⟩=some (.func (.func 95) #[] #[])/\w'.cell? ⟨w.heap.size,4,none⟩=some (.func (.func 96) #[] #[])/\w'.cell? ⟨w.heap.size,5,none⟩=some (.func (.func 97) #[] #[])/\
  w'.cell? ⟨w.heap.size,6,none⟩=some (.func (.func 98) #[] #[])/\w.heap.size<w'.heap.size:=by
 go_in;go_wp2_with fail;go_ret;exact⟨(by first|trivial|rfl),(ay.refl [] w).alloc _,by rw[(bh.new w _ _).cell];rfl,by rw[(bh.new w _ _).cell];rfl,by rw[(bh.new w _ _).cell];rfl,by rw[(bh.new w _ _).cell];rfl,by rw[(bh.new w _ _).cell];rfl,by rw[(bh.new w _ _).cell];rfl,by rw[(bh.new w _ _).cell];rfl,by simp⟩
theorem O8 (h:gU w b gp B ps T own):
  Calls prog 15 #[b] w (Dz w (tC (az B ps) T own)):=by
 have ah:Hid (∀z,ay [] w z->Calls prog 92 #[b] z (dv z (tC (az B ps) T own 0))):=λz G=>I4 (h.keep0 G).sh
 have aa:Hid (∀z,ay [] w z->Calls prog 93 #[b] z (dv z (tC (az B ps) T own 1))):=λz G=>Vz (h.keep0 G)
 have ae:Hid (∀z,ay [] w z->Calls prog 94 #[b] z (dv z (tC (az B ps) T own 2))):=λz G=>Ij (h.keep0 G)
 have ai:Hid (∀z,ay [] w z->Calls prog 95 #[b] z (dv z (tC (az B ps) T own 3))):=λz G=>Fa (h.keep0 G)
 have ac:Hid (∀z,ay [] w z->Calls prog 96 #[b] z (dv z (tC (az B ps) T own 4))):=λz G=>I5 (h.keep0 G)
 have af:Hid (∀z,ay [] w z->Calls prog 97 #[b] z (dv z (tC (az B ps) T own 5))):=λz G=>I6 (h.keep0 G)
 have aj:Hid (∀z,ay [] w z->Calls prog 98 #[b] z (dv z (tC (az B ps) T own 6))):=λz G=>Ji (h.keep0 G)
 clear h;generalize tC (az B ps) T own=pP at *;go_in;go_wp2_with fail;refine Rr (Wo _) ?_;rintro w1 ⟨ag,q0,q1,q2,q3,q4,q5,q6,W⟩;have jH:=ar ag;have HQ:Hid (∀z,ay [] w1 z->z.cell? w.heap.size=some (.func (.func 92) #[] #[])/\z.cell? ⟨w.heap.size,1,none⟩=some (.func (.func 93) #[] #[])/\z.cell? ⟨w.heap.size,2,none⟩=some (.func (.func 94) #[] #[])/\
  z.cell? ⟨w.heap.size,3,none⟩=some (.func (.func 95) #[] #[])/\z.cell? ⟨w.heap.size,4,none⟩=some (.func (.func 96) #[] #[])/\z.cell? ⟨w.heap.size,5,none⟩=some (.func (.func 97) #[] #[])/\
  z.cell? ⟨w.heap.size,6,none⟩=some (.func (.func 98) #[] #[])):=λz G=>by
  have hb:=G.block w.heap.size W (by simp);exact⟨(aO (a:=⟨w.heap.size,0,none⟩) hb).trans q0,(aO (a:=⟨w.heap.size,1,none⟩) hb).trans q1,(aO (a:=⟨w.heap.size,2,none⟩) hb).trans q2,(aO (a:=⟨w.heap.size,3,none⟩) hb).trans q3,(aO (a:=⟨w.heap.size,4,none⟩) hb).trans q4,(aO (a:=⟨w.heap.size,5,none⟩) hb).trans q5,(aO (a:=⟨w.heap.size,6,none⟩) hb).trans q6⟩
 clear ag q0 q1 q2 q3 q4 q5 q6 W;go_wp2_with fail;go_loopg [8] 7 (λgh s8 z=>∃k:Nat,k+gh=7/\s8= .int .i64 (k:Int)/\Hid (ay [] w1 z/\∀j,j<k->pP j))
 case atStart=>exact⟨0,by omega,rfl,ay.refl _ _,λj hj=>by omega⟩
 case round=>
  obtain⟨k,G,rfl,HI⟩:=hrel;cases gk with
  |zero=>
   obtain rfl:k=7:=by omega
   have HF:Hid (Dz w pP (.returned (.tuple #[(0:Int),true])) wr):=⟨0,rfl,.inl ⟨rfl,HI.out.2⟩,by omega,jH.out.trans' HI.out.1⟩;clear HI HQ ah aa ae ai ac af aj;go_wp2_with fail;go_ret2;exact HF.out
  |succ gg=>
   obtain⟨J,CZ⟩:=hh2 HI.out.2 HI.out.1;obtain⟨q0,q1,q2,q3,q4,q5,q6⟩:=HQ.out _ CZ.out;have V:=ar (jH.out.trans' CZ.out);have xw:k=0\/k=1\/k=2\/k=3\/k=4\/k=5\/k=6:=by omega
   have W:(k:Int)<7:=by omega
   have cM:(0:Int)<=(k:Int):=by omega
   rcases xw with h|h|h|h|h|h|h
   have q:wr.cell? ⟨w.heap.size,k,none⟩=some (.func (.func 92) #[] #[]):=by rw[h];exact q0
   rotate_left
   have q:wr.cell? ⟨w.heap.size,k,none⟩=some (.func (.func 93) #[] #[]):=by rw[h];exact q1
   rotate_left
   have q:wr.cell? ⟨w.heap.size,k,none⟩=some (.func (.func 94) #[] #[]):=by rw[h];exact q2
   rotate_left
   have q:wr.cell? ⟨w.heap.size,k,none⟩=some (.func (.func 95) #[] #[]):=by rw[h];exact q3
   rotate_left
   have q:wr.cell? ⟨w.heap.size,k,none⟩=some (.func (.func 96) #[] #[]):=by rw[h];exact q4
   rotate_left
   have q:wr.cell? ⟨w.heap.size,k,none⟩=some (.func (.func 97) #[] #[]):=by rw[h];exact q5
   rotate_left
   have q:wr.cell? ⟨w.heap.size,k,none⟩=some (.func (.func 98) #[] #[]):=by rw[h];exact q6
   rotate_left
   all_goals
    have HE:=ar h;clear h HI HQ q0 q1 q2 q3 q4 q5 q6;go_wp2_with fail
    first
     |refine(ah.out _ V.out).mono ?_
     |refine(aa.out _ V.out).mono ?_
     |refine(ae.out _ V.out).mono ?_
     |refine(ai.out _ V.out).mono ?_
     |refine(ac.out _ V.out).mono ?_
     |refine(af.out _ V.out).mono ?_
     |refine(aj.out _ V.out).mono ?_
    rintro e w2 ⟨r,rfl,hr,U⟩;rw[<-HE.out] at hr;cases r
    ·have HF:Hid (Dz w pP (.returned (.tuple #[((k+1:Nat):Int),false])) w2):=⟨k+1,rfl,.inr ⟨by omega,by omega,λh=>(by cases hr.2 h),J.out⟩,by omega,V.out.trans' U⟩
     clear J CZ hr U;go_wp2_with fail;go_ret2;exact HF.out
    ·have HN:Hid (ay [] w1 w2/\∀j,j<k+1->pP j):=⟨CZ.out.trans' U,λj hj=>by
      by_cases e:j=k
      ·rw[e];exact hr.1 rfl
      ·exact J.out j (by omega)⟩
     clear J CZ hr U;go_wp2_with fail;go_roundg gg;case measure=>omega
     case rel=>exact⟨k+1,by omega,by go_num,HN.out⟩
def On (s:kp):Prop:=s.now.length=3128/\In64 s.now/\∀k:Nat,k<s.now.length->s.refusal (k:Int)=0/\s.load (k:Int)=s.now.getD k 0
def L6 (w:World) (b:Nat) (R:kp->World->Prop) (e:Ending) (w':World):Prop:=
 (∃x s,e= .returned (.tuple #[.pointer none,(x:Int)])/\x=10/\On s/\(∀M,¬∃T own,mN s.now T own [] M)/\R s w')\/
 (∃f s,e= .returned (.tuple #[(f:Nat),(0:Int)])/\On s/\aac w' f b/\w.heap.size<=f/\(∃M T own,mN s.now T own [] M)/\R s w')
theorem Ky{V:Nat}(hl:X.length=3128)(G:In64 X)(hs:eK w b V X [])(U:b<w.heap.size/\V<w.heap.size):
  Calls prog 15 #[b] w λe w'=>∃k:Nat,e= .returned (.tuple #[(k:Int),(decide (k=0))])/\ay [] w w'/\Hid (k=0↔∃M T own,mN X T own [] M):=by
 by_cases hx:∃M T own,mN X T own [] M
 ·obtain⟨M,T,own,EY⟩:=id hx
  have z:gU w b V X [] T own:=⟨hs,G,EY.st.gots,U⟩;refine(O8 z).mono ?_;rintro e w' ⟨k,rfl,J,-,W⟩;refine⟨k,rfl,W,λ_=>hx,λ_=> ?_⟩;rw[Ae] at J;exact J.uniq (.inl ⟨rfl,EY.points⟩)
 ·obtain⟨T,own,hg⟩:=ab4 X
  have z:gU w b V X [] T own:=⟨hs,G,hg,U⟩;refine(O8 z).mono ?_;rintro e w' ⟨k,rfl,J,-,W⟩;refine⟨k,rfl,W,λh0=> ?_,λh=>absurd h hx⟩;rw[Ae] at J;rcases J with ⟨-,h4⟩|⟨h4,-⟩
  ·obtain⟨M,hm⟩:=aeF hl G hg h4
   exact⟨M,T,own,hm⟩
  ·omega
theorem O9{R:kp->World->Prop}(hR:∀s wa wb,ay [] wa wb->R s wa->R s wb)(h:Calls prog 56 #[b] w λe w'=>e=(0:Int)/\∃s,On s/\fx w' b gn gl gf s/\w.heap.size<=w'.heap.size/\R s w'):
  Calls prog 27 #[b] w (L6 w b R):=by
 obtain⟨H,HR⟩:=hh2 h hR;clear h hR;go_in;go_wp2_with fail;refine Rr H.out ?_;rintro w1 ⟨s,J,hp,aa,hr⟩;obtain⟨ah,ac,lU,mY⟩:=hh4 J hr aa (Ie hp J.2.2);have V:Hid (∀z f,ay [] w1 z->aac z f b->w.heap.size<=f->(∃M T own,mN s.now T own [] M)->L6 w b R (.returned (.tuple #[(f:Nat),(0:Int)])) z):=λz f G hf hw EY=> .inr ⟨f,s,rfl,J,hf,hw,EY,HR.out s w1 z G hr⟩
 have U:Hid (∀z,ay [] w1 z->(¬∃M T own,mN s.now T own [] M)->L6 w b R (.returned (.tuple #[.pointer none,(10:Int)])) z):=λz G hn=> .inl ⟨10,s,rfl,rfl,J,λM h2=>hn ⟨M,h2⟩,HR.out s w1 z G hr⟩
 have OW:kU s.now=s.now:=by
  apply cV (by rw[iE,J.1]);intro k h1 h2;have :=uO s.now k;rw[iE] at h1;rw[aj,aD (by rw[iE];exact h1),fc] at this;rw[this,aB h1,aj,aD h2];rfl
 have ae:Hid (∀z W,eK z W W s.now []->Calls prog 15 #[(W:Nat)] z λe w3=>∃k:Nat,e= .returned (.tuple #[(k:Int),(decide (k=0))])/\ay [] z w3/\Hid (k=0↔∃M T own,mN s.now T own [] M)):=λz W hs=>Ky J.1 J.2.1 hs ⟨hs.raw.lt,hs.raw.lt⟩
 have ag:=ar OW;clear J hp aa hr HR OW;generalize L6 w b R=Q,s.now=X at *;go_wp2_with fail;refine mY.out.mono ?_;rintro e z ⟨v,g,rfl,ER,hg,G⟩;have HN:=Bg ER;rw[ag.out] at HN;obtain⟨HN,fo⟩:=hh2 HN G;clear ER hg G mY ag;go_wp2_with fail;refine HN.out.mono ?_;rintro e w3 ⟨W,rfl,ai,af,G⟩;obtain⟨HS,oI⟩:=hh2 (ae.out w3 W af) (fo.out.trans' G);clear ai af G HN ae fo;go_wp2_with fail;refine HS.out.mono ?_;rintro e w4 ⟨k,rfl,G,M5⟩;have qb:=ar (oI.out.trans' G);clear G HS oI;by_cases cM:k=0
 ·have HF:Hid (Q (.returned (.tuple #[w4.heap.size,(0:Int)])) (w4.alloc (.cells #[b] 87))):=V.out _ _ (qb.out.alloc _) (bh.new _ _ _) (by have :=qb.out.size;have :=lU.out;omega) (M5.out.1 cM)
  subst cM;clear V U M5 ah ac lU;go_wp2_with fail;exact HF.out
 ·have hd:decide (k=0)=false:=aQ cM
  have HF:=ar (U.out _ qb.out (λh=>cM (M5.out.2 h)));clear V U M5 ah ac lU cM;go_wp2_with fail;exact HF.out
theorem aap (h:In64 X):Cq X:=λx G=>by
 obtain⟨i,z,rfl⟩:=bW G;have :=h i;rw[aj,aD z,fc] at this;omega
theorem Pb{xs:List Int}(h:fx w b gn gl gf (calm xs d))(G:xs.length=3128)(W:Cq xs)(J:xs.getD 8 0=0):
  Calls prog 56 #[b] w λe w'=>e=(0:Int)/\ay [] w w':=by
 have V:qE xs=none:=by
  unfold qE BU;rw[J,aA ?_];rintro⟨h1,-⟩;simp at h1
 obtain⟨HS,U⟩:=hh2 (zZ (yF h G) (AP h G) W V) (λwx (z:ay [] w wx)=>ze (h.keep z (by simp) (by simp)) 8 (by omega) (by rw[G];omega));rw[show(8:Int).toNat=8 from rfl,J] at U;clear h G W V J;go_in;go_wp2_with fail;refine Rr HS.out λw1 z=> ?_;obtain⟨xC,HK⟩:=hh2 (U.out w1 z) z;clear z U HS;go_wp2_with fail;refine C' xC.out ?_;go_wp2_with fail;go_ret;exact⟨rfl,HK.out⟩
theorem Fx (G:X.length=3128)(h:In64 X):On (calm X d):=by
 refine⟨G,h,λk J=> ?_⟩;have z:(k:Int)<X.length:=by have :k<X.length:=J;omega
 exact⟨wP (by omega) z,by rw[Kk (by omega) z];rfl⟩
structure Live (W0:World) (f b gn gl gf:Nat) (M:Nat->Nd) (X:List Int) (n:Int) (w:World):Prop where
 fs:aac w f b
 ws:RH X M
 pm:∃d,(0<=d/\d<=n)/\fx w b gn gl gf (calm X d)
 keeps:ay [] W0 w
 new:W0.heap.size<=f/\W0.heap.size<=b/\W0.heap.size<=gn/\W0.heap.size<=gl/\W0.heap.size<=gf
 off:f∉[b,gn,gl,gf]
theorem Live.keep{U:World}(h:Live U f b gn gl gf M X n w){l:List Nat}(G:ay l w w')(V:∀y∈l,U.heap.size<=y/\y∉[f,b,gn,gl,gf]):Live U f b gn gl gf M X n w':=by
 obtain⟨d,W,hp⟩:=h.pm;have z:∀y,y∈[f,b,gn,gl,gf]->y∉l:=λy J hm=>(V y hm).2 J
 exact⟨h.fs.keep G (z _ (by simp)),h.ws,⟨d,W,hp.keep G (z _ (by simp)) (λ_=>⟨z _ (by simp),z _ (by simp),z _ (by simp)⟩)⟩,h.keeps.trans G (λy J=> .inr (V y J).1),h.new,h.off⟩
theorem Live.keep0{z:World}(h:Live z f b gn gl gf M X n w)(G:ay [] w w'):Live z f b gn gl gf M X n w':=h.keep G (by simp)
def adg (h:World) (f b gn gl gf:Nat) (M:Nat->Nd) (X:List Int) (n:Int) (o:jz) (w:World) (e:Ending) (w':World):Prop:=
 ∃r Z,e= .returned (.agg Z)/\wU w.heap.size w' r Z/\ay [b,gn,gl,gf] w w'/\
  ((r.E≠0/\Live h f b gn gl gf M X n w'/\((r.E=7/\r=cW 7/\Dp o.K=true/\((ko M o).2.E=0\/(ko M o).2.E=7)/\((aZ X).length<40\/(ko M o).2.E=7))\/r=(ko M o).2))\/
  (r.E=0/\(ko M o).2.E=0/\aeL o r (ko M o).2/\∃z,Live h f b gn gl gf (ko M o).1 z (n+3000) w'))
theorem Wp{W0:World}{o:jz}{vp vq vd:Value}(af:L3 M o)(h:Live W0 f b gn gl gf M X n w)(hT:kN W0)(hn:n<=1000000000)(hI:EZ w o vp vq vd):
  Calls prog 11 #[f,B0 o vp vq vd] w (adg W0 f b gn gl gf M X n o w):=by
 obtain⟨d,hd,hp⟩:=h.pm;have J:=h.ws.len;have ag:=hp.old (by show X.length≠0;omega);have U:∀y∈[b,gn,gl,gf],y<w.heap.size:=λy hy=>by
  simp only[aL,aK,bC] at hy;omega
 have xd:=Fx (d:=d) J h.ws.w64;have aa:=ab7 h.ws.tree h.ws.few (o:=o) hI.ds;refine(acx (X:=X) (M:=M) (ks:=[b,gn,gl,gf]) (C:=λps x w'=>x=0/\fx w' b gn gl gf (calm (nO X ps) (d+(Cr ps:Nat)))) af h.fs hp rfl xd.2.2 h.ws (hT.keep h.keeps) hI U ?_ ?_).mono ?_
 ·rintro ps x wa wb l hl z ⟨rfl,W⟩
  have G:∀y,y∈[b,gn,gl,gf]->y∉l:=λy hy hm=>by have :=hl y hm;have :=U y hy;omega
  exact⟨rfl,W.keep z (G _ (by simp)) (λ_=>⟨G _ (by simp),G _ (by simp),G _ (by simp)⟩)⟩
 ·intro w1 v g qs r0 z hO h0 hr hg
  obtain⟨-,-,hl⟩:=hO.E_zero h0;obtain⟨c1,c2,c3,-,-⟩:=h.ws.lands hl aa.1;refine(VM (hp.keep z (by simp) (by simp)) hd.1 (by omega) J hr c1 c2 c3 (λ_ hm=>by have :=U _ hm;omega)).mono ?_;rintro e w2 ⟨rfl,W,h2⟩;exact⟨0,rfl,h2,rfl,W⟩
 ·rintro e w' ⟨r,Z,rfl,W,⟨z,h2,r0,qs,hO,rfl⟩|⟨z,r0,qs,x,hO,h0,⟨rfl,ac⟩,⟨-,rfl⟩|⟨hx,-⟩⟩⟩
  ·refine⟨_,Z,rfl,W,z.mono (by simp),.inl ⟨h2,h.keep0 z,?_⟩⟩
   have ae:r0.E≠0:=h2;rcases hO with ⟨V,a2,a3,a4⟩|⟨V,a2⟩|⟨V,-⟩
   ·exact .inl ⟨V,by rw[V],a2,a3,a4⟩
   ·exact .inr a2.symm
   ·exact absurd V ae
  ·obtain⟨V,a2,hl⟩:=hO.E_zero h0
   obtain⟨c1,c2,c3,c4,-⟩:=h.ws.lands hl aa.1;have T9:=TG (dh X (az X qs) 3128);refine⟨r,Z,rfl,W,z,.inr ⟨h0,V,a2,_,h.fs.keep z h.off,c4,⟨_,⟨by omega,by omega⟩,ac⟩,h.keeps.trans z λy hy=> .inr ?_,h.new,h.off⟩⟩;have :=h.new;simp only[aL,aK,bC] at hy;omega
  ·exact absurd rfl hx
def Cg (J:Array Value):List Value:=[.func (.func 64) #[J] #[],.func (.func 65) #[J] #[],.func (.func 66) #[J] #[],.func (.func 67) #[J] #[],.func (.func 68) #[J] #[],.func (.func 69) #[J] #[],.func (.func 70) #[J] #[],.func (.func 71) #[J] #[],.func (.func 72) #[J] #[],.func (.func 73) #[J] #[],.func (.func 74) #[J] #[],.func (.func 75) #[J] #[],.func (.func 76) #[J] #[]]
theorem aaq (J:Array Value):∀u∈Cg J,u.oneCell'=true:=by
 intro u h;simp only[Cg,aL,aK,bC] at h;rcases h with rfl|rfl|rfl|rfl|rfl|rfl|rfl|rfl|rfl|rfl|rfl|rfl|rfl<;>rfl
theorem Wq:(prog.info? 138).map (·.size)=some 13:=by kernel_rfl
theorem Ik (w:World)(J Z:Array Value)(h:Z.size=13):∃w',(storeVar 138 w.heap.size (.agg (Cg J).toArray)).run prog (w.alloc (.cells Z 138))= .ok () w'/\bh w' w.heap.size (Cg J).toArray 138/\ay [w.heap.size] (w.alloc (.cells Z 138)) w':=
 bG (P:= prog) (cs:=Cg J) (by exact Wq) (bh.new _ _ _) (by rw[h];rfl) (aaq J)
theorem acE (w:World)(b:Nat){o:jz}(h vq vd:Value)(hK:¬(0<=o.K/\o.K<=12)):
  Calls prog 33 #[cB b o h vq vd] w λe w'=>e= .returned (.func (.func 77) #[cB b o h vq vd] #[])/\ay [] w w':=by
 have G:=bh.new w (cB b o h vq vd) 91;have c1:(w.alloc (.cells (cB b o h vq vd) 91)).cell? ⟨w.heap.size,1,none⟩=some (.int .i64 o.K):=by rw[G.cell];rfl
 have U:Hid (∀V,ay [] (w.alloc (.cells (cB b o h vq vd) 91)) V->(loadVar 91 w.heap.size).run prog V= .ok (.agg (cB b o h vq vd)) V):=λV hk=>jG (G.keep hk (by simp))
 obtain⟨W,hW⟩:∃W,w.alloc (.cells (cB b o h vq vd) 91)=W:=⟨_,rfl⟩;rw[hW] at G c1 U;have jo:=ar (U.out W (ay.refl _ _));generalize hJ:cB b o h vq vd=J at *;obtain⟨w2,q1,q2,q3⟩:=Ik W J #[.nilFunc,.nilFunc,.nilFunc,.nilFunc,.nilFunc,.nilFunc,.nilFunc,.nilFunc,.nilFunc,.nilFunc,.nilFunc,.nilFunc,.nilFunc] rfl;have rq:ay [] W w2:=((ay.refl _ _).alloc _).trans q3 (by intro x hx;rw[au] at hx;omega);have z:ay [] w w2:=by
  have :ay [] w W:=by rw[<-hW];exact(ay.refl _ _).alloc _
  exact this.trans' rq
 have c2:w2.cell? ⟨w.heap.size,1,none⟩=some (.int .i64 o.K):=by rw[(G.keep rq (by simp)).cell,<-hJ];rfl
 obtain⟨vO,HS,fo⟩:=hh3 (U.out w2 rq) q1 z;clear U q1 q2 q3 rq z G c1;by_cases h0:o.K<0
 ·have b1:decide (o.K<0)=true:=bu h0
  generalize o.K=K at *;clear hJ;go_in;go_wp2_with(with_reducible first|refine gL 91 jo.out ?_|refine gS 138 HS.out ?_|refine gL 91 vO.out ?_);go_ret;exact⟨rfl,fo.out⟩
 ·have b1:decide (o.K<0)=false:=aQ h0
  have b2:(13:Int)<=o.K:=by omega
  generalize o.K=K at *;clear hJ;go_in;go_wp2_with(with_reducible first|refine gL 91 jo.out ?_|refine gS 138 HS.out ?_|refine gL 91 vO.out ?_);go_ret;exact⟨rfl,fo.out⟩
theorem aar (w:World)(b:Nat){o:jz}(h vq vd:Value){k:Nat}(hK:o.K=(k:Int))(hk:k<13):
  Calls prog 33 #[cB b o h vq vd] w λe w'=>e= .returned ((Cg (cB b o h vq vd)).getD k undef)/\ay [] w w':=by
 have U:=bh.new w (cB b o h vq vd) 91;have c1:(w.alloc (.cells (cB b o h vq vd) 91)).cell? ⟨w.heap.size,1,none⟩=some (.int .i64 o.K):=by rw[U.cell];rfl
 have V:Hid (∀wx,ay [] (w.alloc (.cells (cB b o h vq vd) 91)) wx->(loadVar 91 w.heap.size).run prog wx= .ok (.agg (cB b o h vq vd)) wx):=λwx hk=>jG (U.keep hk (by simp))
 obtain⟨W,hW⟩:∃W,w.alloc (.cells (cB b o h vq vd) 91)=W:=⟨_,rfl⟩;rw[hW] at U c1 V;have jo:=ar (V.out W (ay.refl _ _));generalize hJ:cB b o h vq vd=J at *;obtain⟨G,q1,q2,q3⟩:=Ik W J #[.nilFunc,.nilFunc,.nilFunc,.nilFunc,.nilFunc,.nilFunc,.nilFunc,.nilFunc,.nilFunc,.nilFunc,.nilFunc,.nilFunc,.nilFunc] rfl;have rq:ay [] W G:=((ay.refl _ _).alloc _).trans q3 (by intro x hx;rw[au] at hx;omega);have z:ay [] w G:=by
  have :ay [] w W:=by rw[<-hW];exact(ay.refl _ _).alloc _
  exact this.trans' rq
 have c2:G.cell? ⟨w.heap.size,1,none⟩=some (.int .i64 o.K):=by rw[(U.keep rq (by simp)).cell,<-hJ];rfl
 obtain⟨vO,HS,fo⟩:=hh3 (V.out G rq) q1 z;have c5:G.cell? ⟨W.heap.size,k,none⟩=some ((Cg J).getD k undef):=by
  rw[q2.cell,aF,aj,aD (show k<(Cg J).length from hk)];rfl
 rw[hK] at c2;have b1:(0:Int)<=(k:Int):=by omega
 have b2:(k:Int)<13:=by omega
 have b3:decide ((k:Int)<0)=false:=aQ (by omega);have b4:¬(13:Int)<=(k:Int):=by omega
 clear V q1 q2 q3 rq z U c1 hJ hK;generalize (Cg J).getD k undef=fv at *;go_in;go_wp2_with(with_reducible first|refine gL 91 jo.out ?_|refine gS 138 HS.out ?_);go_ret;exact⟨rfl,fo.out⟩
end
end Go.Proofs.YtimcfdnbpkiniaaGreatDoor

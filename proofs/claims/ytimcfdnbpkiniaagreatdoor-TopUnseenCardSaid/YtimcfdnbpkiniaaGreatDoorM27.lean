/- Lemmas. -/
import Derived.Test.YtimcfdnbpkiniaaGreatDoorM26
set_option maxHeartbeats 8000000
set_option maxRecDepth 100000
namespace Go.Proofs.YtimcfdnbpkiniaaGreatDoor
open Go.Proofs.Tryz
section
open Go.RowKit
variable{w w':World}{b f gf gl gn gp:Nat}{B X:List Int}{ps:List (Int×Int)}{T:List (bS×Value)}{own:Nat->List Nat}{d n:Int}{M:Nat->Nd}
theorem LQ (h:eN w b gp B ps)(ag:In64 (az B ps)){n:bS}(v:Value)(hB:n.B.length=13)(hR:cm n)(hK:n.K=1):
  Calls prog 142 #[b,aL n v] w (dz w (jS (az B ps) n)):=by
 have hS:0<=n.S/\n.S<=832:=by
  rcases hR.2.2 with h|h
  ·exact h.2.1
  ·omega
 have U:=uX hR hB;have HG:Hid (∀wx,ay [] w wx->∀i:Nat,i<3128->Calls prog 57 #[b,(i:Int)] wx λe w'=>e= .returned (.int .u64 (((az B ps).getD i 0).toNat:Int))/\wx=w'):=λwx hk i hi=>by
  have :=nW (h.keep hk) (i:Int);rw[N3 hi] at this;rwa[jz (ag i).1]
 have HP:Hid (∀(r:Bool) w',(r=true↔(n.S%64≠0->n.B.getD (n.S/64).toNat 0≠0->∀j:Nat,n.S%64<=(j:Int)->j<64->rG ((az B ps).getD (1080+8*(n.B.getD (n.S/64).toNat 0).toNat+j/8) 0).toNat (j%8)=0))->ay [] w w'->dz w (jS (az B ps) n) (.returned (.bool r)) w'):=λr w' hr hk=>⟨r,rfl,hr.trans (Vv hB hR hK).symm,hk⟩
 have z:=bc.new w (aL n v) 75;have cM:=(ay.refl [] w).alloc (.cells (aL n v) 75);generalize az B ps=X at *;generalize jS X n=pT at *;obtain⟨s,hs⟩:=cz hS.1;have c3:(w.alloc (.cells (aL n v) 75)).cell? ⟨w.heap.size,3,none⟩=some (.int .i64 (s:Int)):=by rw[z.cell,<-hs];exact(fT v hB).f3
 have hm:(s:Int).tmod 64=((s%64:Nat):Int):=rfl;have hd:(s:Int).tdiv 64=((s/64:Nat):Int):=rfl;have Tt:s<=832:=by omega
 have J:Hid (∀(r:Bool) w',(r=true↔(s%64≠0->n.B.getD (s/64) 0≠0->∀j:Nat,s%64<=j->j<64->rG (X.getD (1080+8*(n.B.getD (s/64) 0).toNat+j/8) 0).toNat (j%8)=0))->ay [] w w'->dz w pT (.returned (.bool r)) w'):=λr w' hr hk=>HP.out r w' (hr.trans (by
  rw[hs,show((s:Int)/64).toNat=s/64 by omega];constructor
  ·intro h h0 z j hj
   exact h (by omega) z j (by omega)
  ·intro h h0 z j hj
   exact h (by omega) z j (by omega))) hk
 clear HP hs h ag hS;by_cases h0:s%64=0
 ·have HF:=ar (J.out true _ ⟨λ_ h=>absurd h0 h,λ_=>rfl⟩ cM)
  rw[h0] at hm;clear J HG z cM U h0;generalize aL n v=Z at *;go_in;go_wp2;go_ret;exact HF.out
 ·have hq:s/64<13:=by omega
  have c4:(w.alloc (.cells (aL n v) 75)).cell? ⟨w.heap.size,4+s/64,none⟩=some (.int .i64 (n.B.getD (s/64) 0)):=by rw[z.cell];exact(fT v hB).f4 _ hq
  have hy:=U (s/64);have Ru:Hid (s%64≠0):=h0;have xq:s%64<64:=ij _ (by omega);have fG:=ar cM;generalize n.B.getD (s/64) 0=y at *;obtain⟨q,ah⟩:∃q,s/64=q:=⟨_,rfl⟩;rw[ah] at c4 hd hq;have aK:(q:Int)<13:=by omega
  have aP:(0:Int)<=(q:Int):=by omega
  have Ii:((s%64:Nat):Int)≠0:=by omega
  obtain⟨r,ak⟩:∃r,s%64=r:=⟨_,rfl⟩;rw[ak] at hm xq Ru J Ii;have aG:((r:Int)==0)=false:=by simpa using Ii
  clear z cM U h0 ah ak Tt Ii;generalize aL n v=Z at *;by_cases V:y=0
  ·subst V
   have HF:=ar (J.out true _ ⟨λ_ _ h=>absurd rfl h,λ_=>rfl⟩ fG.out);clear J HG hy;go_in;go_wp2;go_ret;exact HF.out
  ·obtain⟨W,rfl⟩:=cz hy.1
   rw[aF] at J;have aO:(((W:Nat):Int)==0)=false:=by simpa using V
   have aC:W<256:=by omega
   have aB:Hid (((W:Nat):Int)≠0):=V;have DX:=ar (λw=>j6 (W:Int) w);rw[show iG (W:Int)=((1080+8*W:Nat):Int) by unfold iG;rw[aA];omega] at DX;have HQ:Hid (∀k:Nat,k<64->1080+8*W+k/8<3128):=λk hk=>by omega
   clear hy V;generalize 1080+8*W=Q at *;go_in;go_wp2_with fail;go_loopg [7] (64-r) (λgh s7 wx=>∃k:Nat,k+gh=64/\s7= .int .i64 (k:Int)/\Hid (ay [] w wx/\r<=k/\∀j,r<=j->j<k->rG (X.getD (Q+j/8) 0).toNat (j%8)=0))
   case atStart=>exact⟨r,by omega,rfl,fG.out,aI _,λj h1 h2=>by omega⟩
   case round=>
    clear c3 c4 hm hd;obtain⟨k,hk,rfl,HI⟩:=hrel;cases gk with
    |zero=>
     obtain rfl:k=64:=by omega
     have HF:=ar (J.out true _ ⟨λ_ _ _=>HI.out.2.2,λ_=>rfl⟩ HI.out.1);clear HI J HG DX HQ;go_wp2;go_ret;exact HF.out
    |succ gg=>
     have aj:k<64:=by omega
     have xa:(k:Int)<64:=by omega
     have hp:=HQ.out k aj;obtain⟨p,G⟩:∃p,Q+k/8=p:=⟨_,rfl⟩;have mV:Hid (rG (X.getD p 0).toNat (k%8)=0->r<=k+1/\∀j,r<=j->j<k+1->rG (X.getD (Q+j/8) 0).toNat (j%8)=0):=λz=>⟨by have :=HI.out.2.1;omega,λj h1 h2=>by
      by_cases e:j=k
      ·rw[e,G];exact z
      ·exact HI.out.2.2 j h1 (by omega)⟩
     have jT:Hid (rG (X.getD p 0).toNat (k%8)≠0->¬(r≠0->((W:Nat):Int)≠0->∀j:Nat,r<=j->j<64->rG (X.getD (Q+j/8) 0).toNat (j%8)=0)):=λz hh=>z (by
      have :=hh Ru.out aB.out k HI.out.2.1 aj;rwa[G] at this)
     have ac:=ar HI.out.1;rw[G] at hp;have aH:(Q:Int)+((k/8:Nat):Int)=(p:Int):=by rw[<-G];omega
     have aJ:(k:Int).tmod 8=((k%8:Nat):Int):=rfl;have FU:(k:Int).tdiv 8=((k/8:Nat):Int):=rfl;have ax:k%8<8:=ij _ (by omega);have aQ:((k%8:Nat):Int)<8:=by omega
     have Co:(0:Int)<=((k%8:Nat):Int):=by omega
     have aN:IntKind.i64.wrap (p:Int)=(p:Int):=fR _ (by omega);have aM:wrap64 (p:Int)=(p:Int):=by unfold wrap64;omega
     clear HI HQ G;generalize k/8=d8,k%8=j8 at *;have ae:=ar (DX.out wr);go_wp2_with fail;refine C' ae.out ?_;obtain⟨ai,af⟩:=hh2 (HG.out wr ac.out p hp) (A8 (X.getD p 0).toNat wr);clear DX ae HG;generalize (X.getD p 0).toNat=WD at *;go_wp2_with fail;refine C' ai.out ?_;clear ai;go_wp2_with fail;refine Rr af.out λw2 av=> ?_;obtain⟨w3,p1,p2,p3⟩:=xL (uO 0 0) (mr WD) (bc.new w2 (pQ (pV 0 0)).toArray 205);have c8:w3.cell? ⟨w2.heap.size,j8,none⟩=some (.int .u8 ((rG WD j8:Nat):Int)):=by
      rw[p2.cell,<-uH WD j8 ax];simpa using A7 (l:=lO WD) (j:=j8) (by rw[mr];omega)
     have o5:=ar p1;rw[<-Ab 0] at o5;have og:Hid (ay [] w w3):=(ac.out.trans' av).trans' (((ay.refl [] w2).alloc _).trans p3 (by intro x hx;rw[au] at hx;omega));have aD:=B0 WD j8;clear af av p1 p2 p3 ac;generalize (pQ (lO WD)).toArray=ZB,rG WD j8=bv at *;by_cases aa:bv=0
     ·subst aa
      have HN:=ar (mV.out rfl);clear mV jT J;go_wp2_with(with_reducible refine gS 205 o5.out ?_);go_roundg gg;case measure=>omega
      case rel=>exact⟨k+1,by omega,by go_num,og.out,HN.out⟩
     ·have DL:(((bv:Nat):Int) != 0)=true:=bne_iff_ne.2 (by omega)
      have HF:=ar (J.out false _ ⟨(λh=>by cases h),λhh=>absurd hh (jT.out aa)⟩ og.out);clear mV jT J aa;go_wp2_with(with_reducible refine gS 205 o5.out ?_);go_ret;exact HF.out
end
section
open Go.RowKit Go.Shelf
variable{w w':World}{b f gf gl gn gp:Nat}{B X:List Int}{ps:List (Int×Int)}{T:List (bS×Value)}{own:Nat->List Nat}{d n:Int}{M:Nat->Nd}
attribute [local go_sem] jV
theorem Wk (h:rF X T own){xs:List GX}(z:xs.map lL=kG T 32):(∀x∈xs,tA x.i x.n (lM T x.i))↔ye T:=by
 constructor
 ·intro V i hi
  rcases h.form i with ⟨J,-,-⟩|⟨-,W,-⟩
  ·have G:(i,nT T i)∈kG T 32:=oP.2 ⟨hi,rfl,J⟩
   rw[<-z] at G;obtain⟨x,U,e⟩:=bH.1 G;have :=V x U
   injection e with e1 e2
   rwa[e1,e2] at this
  ·rw[W]
   exact⟨(λh=>by cases h),(λh=>by cases h)⟩
 ·intro V x U
  have G:lL x∈kG T 32:=by rw[<-z];exact bH.2 ⟨x,U,rfl⟩
  obtain⟨J,W,-⟩:=oP.1 G;have :=V x.i J;rwa[<-show x.n=nT T x.i from W] at this
theorem EO (h:gK w b gp B ps T own):
  Calls prog 95 #[b] w (dz w (ye T)):=by
 have bk:=N5;have rq:=dC;obtain⟨Z0,CY⟩:∃Z0,aL bY (.slice none 0 0)=Z0:=⟨_,rfl⟩;have K3:Hid (Z0.size=18):=by show _=_;rw[<-CY];rfl
 rw[CY] at rq;clear CY;have HS:=ar h;clear h;generalize YG:(dJ (dP 32 λ_=>0)).toArray=ZC at *;have ba:=ar YG;clear YG;have Q8:Hid (∀z,ay [] w z->Calls prog 137 #[b] z λe w'=>e=(dJ (dP 32 (lM T))).toArray/\ay [] z w'):=λz G=>Hw (HS.out.keep0 G)
 have aF:=(ay.refl [] w).alloc (.cells #[false] 4);obtain⟨az,jv,JK⟩:=hh3 (Q8.out _ aF) aF (bc.new w #[false] 4);clear Q8 aF;obtain⟨ZR,aC⟩:∃ZR,(dJ (dP 32 (lM T))).toArray=ZR:=⟨_,rfl⟩;rw[aC] at az;have aW:=ar aC;clear aC;refine(callsIn_wide (n:=5)).1 (callsIn_of_wp_marks func95 rfl trivial (wpIn_wide.2 ?_) rfl);simp only[ntmps95,bP,cA,cD,Nat.reduceAdd,Nat.reduceSub,fX,fY,iA,gU,bN,iO];go_wp2_with fail;refine Rr az.out λw2 ac=> ?_;obtain⟨w3,p1,p2,p3⟩:=J9 (f':=lM T) (show bc (w2.alloc (.cells ZC 189)) w2.heap.size (dJ (dP 32 λ_=>0)).toArray 189 by rw[ba.out];exact bc.new w2 _ _);rw[aW.out] at p1;obtain⟨o5,qC⟩:=hh2 p1 p2;have ny:ay [] w2 w3:=((ay.refl [] w2).alloc _).trans p3 (by intro x U;rw[au] at U;omega);obtain⟨aj,og⟩:=hh2 (JK.out.keep (ac.trans' ny)) (jv.out.trans' (ac.trans' ny));clear p1 p2 p3 ny ac az JK jv;have bo:=qC.out.lt;go_wp2_with(with_reducible refine gS 189 o5.out ?_);generalize w2.heap.size=cb at *;refine Rr (RM b _) λw4 af=> ?_;go_wp2_with fail;rw[<-af];have bb:w4.heap.size=w3.heap.size+1:=by rw[af];simp
 have wG:ay [] w3 w4:=by rw[af];exact(ay.refl [] w3).alloc _
 have L9:bc w4 cb (dJ (dP 32 (lM T))).toArray 189 :=qC.out.keep wG;have jI:bc w4 w.heap.size #[false] 4 :=aj.out.keep wG;have rZ:bc w4 w3.heap.size #[b] 49 :=by rw[af];exact bc.new w3 _ _
 have ak:ay [] w w4:=og.out.trans' wG;have aO:=HS.out.keep0 ak;have bq:=HS.out.lt;have bl:=og.out.size;have bf:w.heap.size≠cb:=λe=>by
  have V:w3.heap[cb]? =some (.cells #[false] 4 (0,0)):=by rw[<-e];exact aj.out
  have h3:=Option.some.inj (V.symm.trans qC.out)
  injection h3 with q1 q2
  exact absurd q2 (by decide)
 have wT:=Dm (n:=5-1) (by omega) aO rZ (C:=[w.heap.size]) (λk G=>by rw[au] at G;subst G;have :=aj.out.lt;omega);have aJ:∀xs:List GX,xs.map lL=kG T 32->((∀x∈xs,tA x.i x.n (lM T x.i))↔ye T):=λxs h=>Wk HS.out.gots h
 have aB:∀i,(nT T i).F≠0->(nT T i).K=1\/(nT T i).K=2:=λi hi=>by
  rcases HS.out.gots.form i with ⟨-,-,V⟩|⟨V,-⟩
  ·exact V.right.2.2.imp (·.1) (·.1)
  ·exact absurd V hi
 have bh:=aj.out.lt;clear af aO rZ qC aj og o5;refine(wpIn_wide (n:=5)).1 ?_;refine tS (by omega) (gf:= 168) (lb:= #[.pointer (some ⟨w3.heap.size,0,none⟩)]) rfl (enters_of func168 (by kernel_rfl) rfl) wT (λk G=>by rw[au] at G;subst G;omega) (λ_=>rfl)
  (λJ A=>ay [] w A/\bc A cb (dJ (dP 32 (lM T))).toArray 189/\bc A w.heap.size #[false] 4/\∀x∈J,tA x.i x.n (lM T x.i))
  (λc J A=>c= .ret/\ay [] w A/\bc A w.heap.size #[false] 4/\∃x∈J,¬tA x.i x.n (lM T x.i))
  (λJ A A' h hb=>⟨h.1.below_trans hb (by omega),h.2.1.low hb (by omega),h.2.2.1.low hb (by omega),h.2.2.2⟩)
  (λc J A A' h hb=>⟨h.1,h.2.1.below_trans hb (by omega),h.2.2.1.low hb (by omega),h.2.2.2⟩)
  ⟨ak,L9,jI,λx U=>by cases U⟩
  (λl x A A' h G=>h.keep G λk G=>by rw[au] at G;omega)
  (λx a' W=>∃g5,bc W g5 (aL x.n x.v) 75/\w4.heap.size<=g5/\a'={ tmps:= #[.pointer (some ⟨b,0,none⟩),undef,.pointer (some ⟨w.heap.size,0,none⟩),.pointer (some ⟨cb,0,none⟩),.int .i64 (x.i:Int),.pointer (some ⟨g5,0,none⟩),.pointer (some ⟨b,0,none⟩),.agg ZR,.pointer (some ⟨b,0,none⟩),.func (.func 168) #[] #[w3.heap.size],.int .i64 (x.i:Int),.agg (aL x.n x.v),undef,undef,undef,undef,undef,undef,undef],defers:=[] })
  (λl x a' A A' _ hr h G=>by
   obtain⟨g5,V,h2,h3⟩:=h;obtain⟨r,hr⟩:=hr;refine⟨g5,V.keep G λhm=> ?_,h2,h3⟩;rw[au] at hm;subst hm;rw[V] at hr;cases hr)
  ?assign (λl x A A' h G=>h.keep G) ?body ?done ?stop
 case assign=>
  rintro l x W K ⟨V,h2,h3,h4,g,h5,h6⟩ bp hK;obtain⟨w5,p1,p2,p3⟩:=cr (n:=x.n) (v:=x.v) (bc.new W Z0 75) K3.out h4 h6.one;have rp:=ar p1;have kr:ay [] W w5:=((ay.refl [] W).alloc _).trans p3 (by intro x U;rw[au] at U;omega);have HF:=ar (hK _ w5 kr ⟨W.heap.size,p2,by omega,rfl⟩);clear p1 p2 p3 kr hK V h2 h3 h4 h5 h6;unfold Wi;generalize aL x.n x.v=ZN at *
  gi_wp2_with ((with_reducible show wpListIn _ _ _ _ _ (⟨_,.store 75 (.tmp 5) (.tmp 11),_,_,_,_⟩::_) _ _);refine jL (r:=some l) rfl 75 (.tmp 5) (.tmp 11) rfl _ rfl _ rfl _ rp.out ?_)
  exact HF.out
 case body=>
  rintro l J x a' W hl bj ⟨jY,Mh,AG,aa⟩ hN ⟨aX,aD,aP,aU,g,hg,hE⟩ ⟨g5,rQ,br,rfl⟩;have aG:=aB x.i (by rw[<-aD];exact aP);rw[<-aD] at aG;have bg:g5≠w.heap.size:=by have :=ak.size;omega
  obtain⟨pb,av⟩:∃pb:Bool,(pb=true↔tA x.i x.n (lM T x.i)):=by
   by_cases hp:tA x.i x.n (lM T x.i)
   ·exact⟨true,λ_=>hp,λ_=>rfl⟩
   ·exact⟨false,(λh=>by cases h),λh=>absurd h hp⟩
  have aQ:Hid (∀z,Calls prog 139 #[(x.i:Int),aL x.n x.v,(lM T x.i:Int)] z λe w'=>e=pb/\ay [] z w'):=λz=>(Vw x.v aU aG x.i (lM T x.i) z).mono λe w' ⟨r,V,h2,h3⟩=>⟨by rw[V,Bool.eq_iff_iff.2 (h2.trans av.symm)],h3⟩
  have uP:Hid (∀z,ay [] W z->(loadVar 75 (g5:Nat)).run prog z= .ok (.agg (aL x.n x.v)) z):=λz G=>bZ (rQ.keep G) aU
  have Mc:Hid (∀z,ay [] W z->z.cell? ⟨cb,x.i,none⟩=some (.int .i64 (lM T x.i:Int))):=λz G=>Lx (Mh.keep G) aX
  have jr:(x.i:Int)<32:=by omega
  have bt:(0:Int)<=(x.i:Int):=by omega
  have MT:Hid (∀z,ay [] W z->z.cell? w.heap.size=some (.bool false)/\z.frozen? w.heap.size=false):=λz G=>by
   have hb:=AG.keep G;exact⟨by rw[hb.cell];rfl,hb.frozen 0⟩
  have mV:Hid (pb=true->∀z,ay [] W z->vK [w.heap.size] (λJ A=>ay [] w A/\bc A cb (dJ (dP 32 (lM T))).toArray 189/\bc A w.heap.size #[false] 4/\∀x∈J,tA x.i x.n (lM T x.i)) (λc J A=>c= .ret/\ay [] w A/\bc A w.heap.size #[false] 4/\∃x∈J,¬tA x.i x.n (lM T x.i)) (J++[x]) W .normal { tmps:= #[],defers:=[] } z):=λhp z G=>
   ⟨G.mono,jY.trans' G,Mh.keep G,AG.keep G,λy hy=>by
    rcases aR.1 hy with hy|hy
    ·exact aa y hy
    ·rw[au] at hy
     subst hy;exact av.1 hp⟩
  have jT:Hid (pb=false->∀z,ay [] W z->vK [w.heap.size] (λJ A=>ay [] w A/\bc A cb (dJ (dP 32 (lM T))).toArray 189/\bc A w.heap.size #[false] 4/\∀x∈J,tA x.i x.n (lM T x.i)) (λc J A=>c= .ret/\ay [] w A/\bc A w.heap.size #[false] 4/\∃x∈J,¬tA x.i x.n (lM T x.i)) (J++[x]) W .ret { tmps:= #[],defers:=[] } (z.setCell ⟨w.heap.size,0,none⟩ (.bool false))):=λhp z G=>
   ⟨(G.mono (l':=[w.heap.size]) (by simp)).setCell (.inl (by simp)) _,rfl,(jY.trans' G).setCell (.inr (aI _)) _,(AG.keep G).set 0 (.bool false),x,by simp,λh=>by rw[av.2 h] at hp;cases hp⟩
  have tT:Hid (ay [] W W.drew):=(ay.refl _ _).drew;clear jY Mh AG aa hN aD aP hE rQ aG av aJ aB L9 jI ak wT;generalize aL x.n x.v=ZN,(lM T x.i:Int)=cI at *;refine wpIn_block (wpIn_seq_k λK aT=> ?_);refine Dl (r:=some l) (S:=λz=>ay [] W z) (by kernel_rfl) (by rintro⟨a,w,h⟩;exact h) (by kernel_rfl) (by kernel_rfl) (λd _ _ _ _ h=>by cases d<;>exact h) tT.out (by kernel_rfl) ?_;repeat (
   (first
   |(refine aS.cons (.bool pb) (bG.call rfl 139 #[(x.i:Int),ZN,cI] ?he ?h) ?_;(case he=>(intro wz;go_simp));(case h=>exact λz U=>(aQ.out z).mono λe w' he=>⟨he.1,U.trans' he.2⟩))
   |(refine aS.cons (.agg ZN) (bG.load rfl 75 (.tmp 5) rfl _ rfl λz U=>uP.out z U) ?_)
   |(refine aS.cons ?_ (bG.val rfl ?h) ?_;(case h=>(intro z U;have bn:=Mc.out z U;clear U;go_simp;rfl))));simp only[Act.put,ag,ah,ai])
  refine aS.done λz U=> ?_
  refine aT _ _ ?_;obtain⟨aH,Nf⟩:=hh2 (λh=>mV.out h z U) (λh=>jT.out h z U);obtain⟨aY,aZ⟩:=MT.out z U;clear aT U mV jT MT Mc uP aQ tT;cases pb
  ·have HF:=ar (Nf.out rfl)
   clear aH Nf
   gi_wp2
   exact HF.out
  ·have HF:=ar (aH.out rfl)
   clear aH Nf
   gi_wp2
   exact HF.out
 case stop=>
  rintro D c J W hD ax ⟨rfl,jY,AG,x,U,aM⟩ JM;have aN:¬ye T:=λh=>aM (by
   obtain⟨V,h2,-⟩:=oP.1 (ax.2 x U);have :=h x.i V;rwa[<-show x.n=nT T x.i from h2] at this)
  have aA:=ar JM;have qN:Hid (∀W',ay [D] W W'->W'.cell? w.heap.size=some (.bool false)/\dz w (ye T) (.returned false) W'):=λW' G=>⟨by rw[(AG.keep G (by rw[au];omega)).cell];rfl,false,rfl,⟨(λh=>by cases h),λh=>absurd h aN⟩,jY.trans G (by intro y hy;rw[au] at hy;omega)⟩
  clear jY AG aM U ax JM aN;refine wpIn_wide.2 ?_;go_wp2_with fail;refine ml [D] W (by simp) (λD' ae=>by rw[au] at ae;subst ae;exact aA.out) λW' G=> ?_
  obtain⟨V,h2⟩:=qN.out W' G;exact⟨.bool false,by simp[results,results95,go_sem,V],h2⟩
 case done=>
  rintro D xs W hD aV ⟨jY,Mh,AG,aa⟩ JM;have hr:=(aJ xs aV).1 aa;have aY:W.cell? w.heap.size=some (.bool false):=by rw[AG.cell];rfl
  have aZ:=AG.frozen 0;have aK:=AG.set 0 (.bool true);have ac:ay [w.heap.size] W (W.setCell ⟨w.heap.size,0,none⟩ (.bool true)):=(ay.refl _ _).setCell (.inl (by simp)) _;have aA:Hid ((W.setCell ⟨w.heap.size,0,none⟩ (.bool true)).heap[D]? =some (.deferred (some []))):=(ac.block D (Array.getElem?_eq_some_iff.1 JM).1 (by rw[au];omega)).trans JM;have qN:Hid (∀W',ay [D] (W.setCell ⟨w.heap.size,0,none⟩ (.bool true)) W'->W'.cell? w.heap.size=some (.bool true)/\dz w (ye T) (.returned true) W'):=λW' G=>⟨by rw[(aK.keep G (by rw[au];omega)).cell];rfl,true,rfl,⟨λ_=>hr,λ_=>rfl⟩,(jY.trans ac (by intro y hy;rw[au] at hy;omega)).trans G (by intro y hy;rw[au] at hy;omega)⟩
  clear jY Mh AG aa JM hr aK ac aV aJ aB L9 jI ak wT;go_wp2_with fail;refine ml [D] _ (by simp) (λD' ae=>by rw[au] at ae;subst ae;exact aA.out) λW' G=> ?_
  obtain⟨V,h2⟩:=qN.out W' G;exact⟨.bool true,by simp[results,results95,go_sem,V],h2⟩
attribute [local go_sem] jV
theorem Wl (h:rF X T own){xs:List GX}(z:xs.map lL=kG T 32):(∀x∈xs,jS X x.n)↔yf X T:=by
 constructor
 ·intro V i hi
  rcases h.form i with ⟨J,-,-⟩|⟨-,W,-⟩
  ·have G:(i,nT T i)∈kG T 32:=oP.2 ⟨hi,rfl,J⟩
   rw[<-z] at G;obtain⟨x,U,e⟩:=bH.1 G;have :=V x U
   injection e with e1 e2
   rwa[e2] at this
  ·rw[W]
   exact λh=>by cases h
 ·intro V x U
  have G:lL x∈kG T 32:=by rw[<-z];exact bH.2 ⟨x,U,rfl⟩
  obtain⟨J,W,-⟩:=oP.1 G;have :=V x.i J;rwa[<-show x.n=nT T x.i from W] at this
theorem Jc (h:gK w b gp B ps T own):
  Calls prog 98 #[b] w (dz w (yf (az B ps) T)):=by
 have rq:=dC;obtain⟨Z0,CY⟩:∃Z0,aL bY (.slice none 0 0)=Z0:=⟨_,rfl⟩;have K3:Hid (Z0.size=18):=by show _=_;rw[<-CY];rfl
 rw[CY] at rq;clear CY;have HS:=ar h;clear h;have aB:((w.alloc (.cells #[b] 49)).alloc (.cells #[false] 4)).cell? w.heap.size=some (.pointer (some ⟨b,0,none⟩)):=by
  rw[((bc.new w #[b] 49).alloc _).cell];rfl
 refine(callsIn_wide (n:=5)).1 (callsIn_of_wp_marks func98 rfl trivial (wpIn_wide.2 ?_) rfl);simp only[ntmps98,bP,cA,cD,Nat.reduceAdd,Nat.reduceSub,fX,fY,iA,gU,bN,iO];go_wp2_with fail;refine Rr (RM b _) λw4 V=> ?_;go_wp2_with fail;rw[<-V];have aO:w4.heap.size=w.heap.size+3:=by rw[V];simp
 have av:bc w4 w.heap.size #[b] 49 :=by
  rw[V];exact((bc.new w _ _).alloc _).alloc _
 have jI:bc w4 (w.heap.size+1) #[false] 4 :=by
  have :=(bc.new (w.alloc (.cells #[b] 49)) #[false] 4).alloc (.cells #[b] 49);rw[aU] at this;rw[V];exact this
 have rZ:bc w4 (w.heap.size+1+1) #[b] 49 :=by
  have :=bc.new ((w.alloc (.cells #[b] 49)).alloc (.cells #[false] 4)) #[b] 49;rw[aU,aU] at this;rw[V];exact this
 have ac:ay [] w w4:=by
  rw[V];exact(((ay.refl [] w).alloc _).alloc _).alloc _
 have aI:=HS.out.keep0 ac;have aS:=HS.out.lt;have wT:=Dm (n:=5-1) (by omega) aI rZ (C:=[w.heap.size+1]) (λk z=>by rw[au] at z;subst z;omega);have aC:∀xs:List GX,xs.map lL=kG T 32->((∀x∈xs,jS (az B ps) x.n)↔yf (az B ps) T):=λxs h=>Wl HS.out.gots h
 have ai:∀i,(nT T i).F≠0->cm (nT T i):=λi hi=>by
  rcases HS.out.gots.form i with ⟨-,-,U⟩|⟨U,-⟩
  ·exact U.right
  ·exact absurd U hi
 have aH:=HS.out.w64;clear V aI rZ aB;generalize hX:az B ps=X at *;refine(wpIn_wide (n:=5)).1 ?_;refine tS (by omega) (gf:= 168) (lb:= #[.pointer (some ⟨w.heap.size+1+1,0,none⟩)]) rfl (enters_of func168 (by kernel_rfl) rfl) wT (λk z=>by rw[au] at z;subst z;omega) (λ_=>rfl)
  (λG A=>ay [] w A/\bc A w.heap.size #[b] 49/\bc A (w.heap.size+1) #[false] 4/\∀x∈G,jS X x.n)
  (λc G A=>c= .ret/\ay [] w A/\bc A (w.heap.size+1) #[false] 4/\∃x∈G,¬jS X x.n)
  (λG A A' h hb=>⟨h.1.below_trans hb (by omega),h.2.1.low hb (by omega),h.2.2.1.low hb (by omega),h.2.2.2⟩)
  (λc G A A' h hb=>⟨h.1,h.2.1.below_trans hb (by omega),h.2.2.1.low hb (by omega),h.2.2.2⟩)
  ⟨ac,av,jI,λx hx=>by cases hx⟩
  (λl x A A' h z=>h.keep z λk z=>by rw[au] at z;omega)
  (λx a' W=>∃g5,bc W g5 (aL x.n x.v) 75/\w4.heap.size<=g5/\a'={ tmps:= #[.pointer (some ⟨b,0,none⟩),.pointer (some ⟨w.heap.size,0,none⟩),.pointer (some ⟨w.heap.size+1,0,none⟩),undef,.pointer (some ⟨g5,0,none⟩),.pointer (some ⟨b,0,none⟩),.func (.func 168) #[] #[(w.heap.size+1+1:Nat)],.int .i64 (x.i:Int),.agg (aL x.n x.v),undef,undef,undef,undef,undef,undef,undef,undef,undef],defers:=[] })
  (λl x a' A A' _ hr h z=>by
   obtain⟨g5,U,h2,h3⟩:=h;obtain⟨r,hr⟩:=hr;refine⟨g5,U.keep z λhm=> ?_,h2,h3⟩;rw[au] at hm;subst hm;rw[U] at hr;cases hr)
  ?assign (λl x A A' h z=>h.keep z) ?body ?done ?stop
 case assign=>
  rintro l x W K ⟨U,h2,h3,h4,g,h5,h6⟩ aQ hK;obtain⟨w5,p1,p2,p3⟩:=cr (n:=x.n) (v:=x.v) (bc.new W Z0 75) K3.out h4 h6.one;have rp:=ar p1;have kr:ay [] W w5:=((ay.refl [] W).alloc _).trans p3 (by intro x hx;rw[au] at hx;omega);have HF:=ar (hK _ w5 kr ⟨W.heap.size,p2,by omega,rfl⟩);clear p1 p2 p3 kr hK U h2 h3 h4 h5 h6;unfold Wi;generalize aL x.n x.v=ZN at *
  gi_wp2_with ((with_reducible show wpListIn _ _ _ _ _ (⟨_,.store 75 (.tmp 4) (.tmp 8),_,_,_,_⟩::_) _ _);refine jL (r:=some l) rfl 75 (.tmp 4) (.tmp 8) rfl _ rfl _ rfl _ rp.out ?_)
  exact HF.out
 case body=>
  rintro l G x a' W hl aP ⟨jY,Mh,AG,J⟩ hN ⟨aV,ak,aJ,ax,g,hg,hE⟩ ⟨g5,rQ,aT,rfl⟩;have hR:=ai x.i (by rw[<-ak];exact aJ);rw[<-ak] at hR;have c1:W.cell? ⟨g5,1,none⟩=some (.int .i64 x.n.K):=by rw[rQ.cell];exact(fT _ ax).f1
  have c0:W.cell? w.heap.size=some (.pointer (some ⟨b,0,none⟩)):=by rw[Mh.cell];rfl
  have uP:=ar (bZ rQ ax);have aj:Hid (x.n.K=1->Calls prog 142 #[b,aL x.n x.v] W (dz W (jS X x.n))):=λz=>by
   have :=LQ (HS.out.sh.keep jY) HS.out.w64 x.v ax hR z;rwa[hX] at this
  have af:Hid (x.n.K≠1->jS X x.n):=λU h2=>absurd h2 U
  have MT:Hid (∀wx,ay [] W wx->wx.cell? (w.heap.size+1:Nat)=some (.bool false)/\wx.frozen? (w.heap.size+1:Nat)=false):=λwx z=>by
   have hb:=AG.keep z;exact⟨by rw[hb.cell];rfl,hb.frozen 0⟩
  have mV:Hid (jS X x.n->∀wx,ay [] W wx->vK [w.heap.size+1] (λG A=>ay [] w A/\bc A w.heap.size #[b] 49/\bc A (w.heap.size+1) #[false] 4/\∀x∈G,jS X x.n) (λc G A=>c= .ret/\ay [] w A/\bc A (w.heap.size+1) #[false] 4/\∃x∈G,¬jS X x.n) (G++[x]) W .normal { tmps:= #[],defers:=[] } wx):=λhp wx z=>
   ⟨z.mono,jY.trans' z,Mh.keep z,AG.keep z,λy hy=>by
    rcases aR.1 hy with hy|hy
    ·exact J y hy
    ·rw[au] at hy
     subst hy;exact hp⟩
  have jT:Hid (¬jS X x.n->∀wx,ay [] W wx->vK [w.heap.size+1] (λG A=>ay [] w A/\bc A w.heap.size #[b] 49/\bc A (w.heap.size+1) #[false] 4/\∀x∈G,jS X x.n) (λc G A=>c= .ret/\ay [] w A/\bc A (w.heap.size+1) #[false] 4/\∃x∈G,¬jS X x.n) (G++[x]) W .ret { tmps:= #[],defers:=[] } (wx.setCell ⟨w.heap.size+1,0,none⟩ (.bool false))):=λhp wx z=>
   ⟨(z.mono (l':=[w.heap.size+1]) (by simp)).setCell (.inl (by simp)) _,rfl,(jY.trans' z).setCell (.inr (by simp)) _,(AG.keep z).set 0 (.bool false),x,by simp,hp⟩
  clear jY Mh AG J hN ak aJ hE rQ aC ai av jI ac wT hR hX aH HS;generalize aL x.n x.v=ZN,aM:x.n.K=K at *;by_cases Sw:K=1
  ·subst Sw
   have ag:=ar (aj.out rfl);clear aj af aM
   gi_wp2_with ((with_reducible show wpListIn _ _ _ _ _ (⟨_,.load 75 (.tmp 4),_,_,_,_⟩::_) _ _);refine pM (r:=some l) rfl 75 (.tmp 4) rfl _ rfl _ uP.out ?_)
   refine⟨trivial,CallsIn.inRound l (callsIn_wide.2 (ag.out.mono ?_))⟩;rintro e w6 ⟨r,rfl,hr,jE⟩;obtain⟨aB,aN⟩:=MT.out w6 jE;cases r
   ·have HF:=ar (jT.out (λh=>by cases hr.2 h) w6 jE)
    clear mV jT MT hr jE ag
    gi_wp2
    exact HF.out
   ·have HF:=ar (mV.out (hr.1 rfl) w6 jE)
    clear mV jT MT hr jE ag
    gi_wp2
    exact HF.out
  ·have aW:(K==1)=false:=by simpa using Sw
   have HF:=ar (mV.out (af.out Sw) W (ay.refl _ _));clear mV jT MT aj af Sw
   gi_wp2
   refine⟨trivial,?_⟩
   gi_wp2
   exact HF.out
 case stop=>
  rintro D c G W hD ae ⟨rfl,jY,AG,x,hx,aF⟩ JM;have aG:¬yf X T:=λh=>aF (by
   obtain⟨U,h2,-⟩:=oP.1 (ae.2 x hx);have :=h x.i U;rwa[<-show x.n=nT T x.i from h2] at this)
  have ah:=ar JM;have qN:Hid (∀W',ay [D] W W'->W'.cell? (w.heap.size+1:Nat)=some (.bool false)/\dz w (yf X T) (.returned false) W'):=λW' z=>⟨by rw[(AG.keep z (by rw[au];omega)).cell];rfl,false,rfl,⟨(λh=>by cases h),λh=>absurd h aG⟩,jY.trans z (by intro y hy;rw[au] at hy;omega)⟩
  clear jY AG aF hx ae JM aG;refine wpIn_wide.2 ?_;go_wp2_with fail;refine ml [D] W (by simp) (λD' aa=>by rw[au] at aa;subst aa;exact ah.out) λW' z=> ?_
  obtain⟨U,h2⟩:=qN.out W' z;exact⟨.bool false,by simp[results,results98,go_sem,U],h2⟩
 case done=>
  rintro D xs W hD aK ⟨jY,Mh,AG,J⟩ JM;have hr:=(aC xs aK).1 J;have aB:W.cell? (w.heap.size+1:Nat)=some (.bool false):=by rw[AG.cell];rfl
  have aN:=AG.frozen 0;have aD:=AG.set 0 (.bool true);have aA:ay [w.heap.size+1] W (W.setCell ⟨w.heap.size+1,0,none⟩ (.bool true)):=(ay.refl _ _).setCell (.inl (by simp)) _;have ah:Hid ((W.setCell ⟨w.heap.size+1,0,none⟩ (.bool true)).heap[D]? =some (.deferred (some []))):=(aA.block D (Array.getElem?_eq_some_iff.1 JM).1 (by rw[au];omega)).trans JM;have qN:Hid (∀W',ay [D] (W.setCell ⟨w.heap.size+1,0,none⟩ (.bool true)) W'->W'.cell? (w.heap.size+1:Nat)=some (.bool true)/\dz w (yf X T) (.returned true) W'):=λW' z=>⟨by rw[(aD.keep z (by rw[au];omega)).cell];rfl,true,rfl,⟨λ_=>hr,λ_=>rfl⟩,(jY.trans aA (by intro y hy;rw[au] at hy;omega)).trans z (by intro y hy;rw[au] at hy;omega)⟩
  clear jY Mh AG J JM hr aD aA aK aC ai av jI ac wT hX aH HS;go_wp2_with fail;refine ml [D] _ (by simp) (λD' aa=>by rw[au] at aa;subst aa;exact ah.out) λW' z=> ?_
  obtain⟨U,h2⟩:=qN.out W' z;exact⟨.bool true,by simp[results,results98,go_sem,U],h2⟩
end
section
open Go.RowKit
variable{w w':World}{b f gf gl gn gp:Nat}{B X:List Int}{ps:List (Int×Int)}{T:List (bS×Value)}{own:Nat->List Nat}{d n:Int}{M:Nat->Nd}
theorem Hx (h:gK w b gp B ps T own):
  Calls prog 94 #[b] w (dz w (N0 (az B ps) T)):=by
 have rq:=dC;obtain⟨Z0,CY⟩:∃Z0,aL bY (.slice none 0 0)=Z0:=⟨_,rfl⟩;have K3:Hid (Z0.size=18):=by show _=_;rw[<-CY];rfl
 rw[CY] at rq;clear CY;have HG:Hid (Calls prog 30 #[b,(0:Int)] w (yV w (az B ps) T own 0)):=h.get (i:=0) (by omega);have Q8:Hid (∀G,ay [] w G->Calls prog 137 #[b] G λe w'=>e=(dJ (dP 32 (lM T))).toArray/\ay [] G w'):=λG hk=>Hw (h.keep0 hk)
 have zL:Hid (∀G,ay [] w G->∀i:Nat,i<32->Calls prog 59 #[b,(i:Int)] G λe w'=>e=(decide (dR (az B ps) (i:Int)))/\ay [] G w'):=λG hk i hi=>by
  have :=E0 (h.keep0 hk).sh (i:Int);rwa[show decide ((0<=(i:Int)/\(i:Int)<32)/\dR (az B ps) (i:Int))=decide (dR (az B ps) (i:Int)) by rw[decide_eq_decide];exact⟨λh=>h.2,λh=>⟨⟨by omega,by omega⟩,h⟩⟩] at this
 have HP:Hid (∀(r:Bool) w',(r=true↔((nT T 0).K=2/\∀i:Nat,i<32->0<lM T i->¬dR (az B ps) (i:Int)))->ay [] w w'->dz w (N0 (az B ps) T) (.returned (.bool r)) w'):=λr w' hr hk=>⟨r,rfl,hr,hk⟩
 have J:Hid (∀i,i<32->(dJ (dP 32 (lM T))).toArray[i]? =some (.int .i64 (lM T i:Int))):=λi hi=>yg hi
 clear h;generalize N0 (az B ps) T=pP at *;generalize az B ps=X,(dJ (dP 32 (lM T))).toArray=ZR at *;go_in;go_wp2_with fail;refine HG.out.mono ?_;rintro e w3 ⟨v,g,va,ga,r,rfl,hB,hE,hg,hO,xe,aa,hr⟩;obtain⟨w4,p1,p2,p3⟩:=cr (n:=nT T 0) (v:=v) (bc.new w3 Z0 75) K3.out hB hE.one;have tY:=ar p1;have qB:Hid (ay [] w w4):=aa.trans' (((ay.refl [] w3).alloc _).trans p3 (by intro x hx;rw[au] at hx;omega));have c1:w4.cell? ⟨w3.heap.size,1,none⟩=some (.int .i64 (nT T 0).K):=by rw[p2.cell];exact(fT _ hB).f1
 clear hB hE hg hO xe aa hr p1 p2 p3 HG;generalize aL (nT T 0) v=ZN,hK:(nT T 0).K=K at *;by_cases U:K=2
 ·subst U
  have Gk:=ar (Q8.out _ qB.out);clear Q8;go_wp2_with(with_reducible refine gS 75 tY.out ?_);refine Rr Gk.out λw5 kr=> ?_;have pU:=ar (qB.out.trans' kr);clear kr Gk tY c1 qB;go_wp2_with fail;go_loopg [19] 32 (λgh s19 G=>∃k:Nat,k+gh=32/\s19= .int .i64 (k:Int)/\Hid (ay [] w G/\∀i:Nat,i<k->0<lM T i->¬dR X (i:Int)))
  case atStart=>exact⟨0,by omega,rfl,pU.out,λi hi=>by omega⟩
  case round=>
   clear pU;obtain⟨k,hk,rfl,W⟩:=hrel;cases gk with
   |zero=>
    obtain rfl:k=32:=by omega
    have HF:=ar (HP.out true _ ⟨λ_=>⟨(by first|trivial|rfl),W.out.2⟩,λ_=>rfl⟩ W.out.1);clear W HP zL J;go_wp2;go_ret;exact HF.out
   |succ gg=>
    have xa:(k:Int)<32:=by omega
    have vt:k<32:=by omega
    have Ib:=lR 189 3 32 .i64 ZR k _ underlying189 underlying3 oG vt (J.out k vt);obtain⟨S7,V,CK⟩:=hh3 (zL.out _ W.out.1 k vt) W.out.2 W.out.1;have mV:Hid ((0<lM T k->¬dR X (k:Int))->∀i:Nat,i<k+1->0<lM T i->¬dR X (i:Int)):=λhh i hi=>by
     by_cases e:i=k
     ·rw[e];exact hh
     ·exact V.out i (by omega)
    have jT:Hid (¬(0<lM T k->¬dR X (k:Int))->¬((2:Int)=2/\∀i:Nat,i<32->0<lM T i->¬dR X (i:Int))):=λhh ha=>hh (ha.2 k vt)
    clear W zL J V;generalize lM T k=z at *;by_cases hz:0<z
    ·have ae:(0:Int)<(z:Int):=by omega
     by_cases hf:dR X (k:Int)
     ·rw[bq hf] at S7
      have ac:=ar (jT.out λh=>h hz hf);clear mV jT hf hz;go_wp2_with fail;refine Rr S7.out λw6 jE=> ?_;have HF:=ar (HP.out false _ ⟨(λh=>by cases h),λh=>absurd h ac.out⟩ (CK.out.trans' jE));clear jE S7 CK ac HP;go_wp2;go_ret;exact HF.out
     ·rw[aP hf] at S7
      have HN:=ar (mV.out λ_=>hf);clear mV jT hf hz;go_wp2_with fail;refine Rr S7.out λw6 jE=> ?_;have rX:=ar (CK.out.trans' jE);clear jE S7 CK;go_wp2;go_roundg gg;case measure=>omega
      case rel=>exact⟨k+1,by omega,by go_num,rX.out,HN.out⟩
    ·have ae:¬(0:Int)<(z:Int):=by omega
     have HN:=ar (mV.out λh=>absurd h hz);obtain rfl:z=0:=by omega
     clear mV jT hz S7;go_wp2;go_roundg gg;case measure=>omega
     case rel=>exact⟨k+1,by omega,by go_num,CK.out,HN.out⟩
 ·have hb:(K != 2)=true:=bne_iff_ne.2 U
  have HF:=ar (HP.out false _ ⟨(λh=>by cases h),λh=>absurd h.1 U⟩ qB.out);clear Q8 zL HP U J;go_wp2_with(with_reducible refine gS 75 tY.out ?_);go_ret;exact HF.out
def Dn (w:World) (P:Nat->Prop) (e:Ending) (w':World):Prop:=∃k:Nat,e= .returned (.tuple #[(k:Int),(decide (k=0))])/\Lv P k/\k<=7/\ay [] w w'
theorem Wm (w:World):Calls prog 43 #[] w λe w'=>e= .returned (.slice w.heap.size 7 7)/\ay [] w w'/\
  w'.cell? w.heap.size=some (.func (.func 92) #[] #[])/\w'.cell? ⟨w.heap.size,1,none⟩=some (.func (.func 93) #[] #[])/\w'.cell? ⟨w.heap.size,2,none⟩=some (.func (.func 94) #[] #[])/\
  w'.cell? ⟨w.heap.size,3,none⟩=some (.func (.func 95) #[] #[])/\w'.cell? ⟨w.heap.size,4,none⟩=some (.func (.func 96) #[] #[])/\w'.cell? ⟨w.heap.size,5,none⟩=some (.func (.func 97) #[] #[])/\
  w'.cell? ⟨w.heap.size,6,none⟩=some (.func (.func 98) #[] #[])/\w.heap.size<w'.heap.size:=by
 go_in;go_wp2;go_ret;exact⟨(by first|trivial|rfl),(ay.refl [] w).alloc _,by rw[(bc.new w _ _).cell];rfl,by rw[(bc.new w _ _).cell];rfl,by rw[(bc.new w _ _).cell];rfl,by rw[(bc.new w _ _).cell];rfl,by rw[(bc.new w _ _).cell];rfl,by rw[(bc.new w _ _).cell];rfl,by rw[(bc.new w _ _).cell];rfl,by simp⟩
theorem O4 (h:gK w b gp B ps T own):
  Calls prog 15 #[b] w (Dn w (tB (az B ps) T own)):=by
 have ac:Hid (∀z,ay [] w z->Calls prog 92 #[b] z (dz z (tB (az B ps) T own 0))):=λz G=>IW (h.keep0 G).sh
 have WW:Hid (∀z,ay [] w z->Calls prog 93 #[b] z (dz z (tB (az B ps) T own 1))):=λz G=>Vy (h.keep0 G)
 have ah:Hid (∀z,ay [] w z->Calls prog 94 #[b] z (dz z (tB (az B ps) T own 2))):=λz G=>Hx (h.keep0 G)
 have aj:Hid (∀z,ay [] w z->Calls prog 95 #[b] z (dz z (tB (az B ps) T own 3))):=λz G=>EO (h.keep0 G)
 have ag:Hid (∀z,ay [] w z->Calls prog 96 #[b] z (dz z (tB (az B ps) T own 4))):=λz G=>IX (h.keep0 G)
 have ai:Hid (∀z,ay [] w z->Calls prog 97 #[b] z (dz z (tB (az B ps) T own 5))):=λz G=>IY (h.keep0 G)
 have af:Hid (∀z,ay [] w z->Calls prog 98 #[b] z (dz z (tB (az B ps) T own 6))):=λz G=>Jc (h.keep0 G)
 clear h;generalize tB (az B ps) T own=pP at *;go_in;go_wp2_with fail;refine Rr (Wm _) ?_;rintro w1 ⟨ae,q0,q1,q2,q3,q4,q5,q6,aa⟩;have jv:=ar ae;have HQ:Hid (∀z,ay [] w1 z->z.cell? w.heap.size=some (.func (.func 92) #[] #[])/\z.cell? ⟨w.heap.size,1,none⟩=some (.func (.func 93) #[] #[])/\z.cell? ⟨w.heap.size,2,none⟩=some (.func (.func 94) #[] #[])/\
  z.cell? ⟨w.heap.size,3,none⟩=some (.func (.func 95) #[] #[])/\z.cell? ⟨w.heap.size,4,none⟩=some (.func (.func 96) #[] #[])/\z.cell? ⟨w.heap.size,5,none⟩=some (.func (.func 97) #[] #[])/\
  z.cell? ⟨w.heap.size,6,none⟩=some (.func (.func 98) #[] #[])):=λz G=>by
  have W:=G.block w.heap.size aa (by simp);exact⟨(aO (a:=⟨w.heap.size,0,none⟩) W).trans q0,(aO (a:=⟨w.heap.size,1,none⟩) W).trans q1,(aO (a:=⟨w.heap.size,2,none⟩) W).trans q2,(aO (a:=⟨w.heap.size,3,none⟩) W).trans q3,(aO (a:=⟨w.heap.size,4,none⟩) W).trans q4,(aO (a:=⟨w.heap.size,5,none⟩) W).trans q5,(aO (a:=⟨w.heap.size,6,none⟩) W).trans q6⟩
 clear ae q0 q1 q2 q3 q4 q5 q6 aa;go_wp2_with fail;go_loopg [8] 7 (λgh s8 z=>∃k:Nat,k+gh=7/\s8= .int .i64 (k:Int)/\Hid (ay [] w1 z/\∀j,j<k->pP j))
 case atStart=>exact⟨0,by omega,rfl,ay.refl _ _,λj hj=>by omega⟩
 case round=>
  obtain⟨k,G,rfl,HI⟩:=hrel;cases gk with
  |zero=>
   obtain rfl:k=7:=by omega
   have HF:Hid (Dn w pP (.returned (.tuple #[(0:Int),true])) wr):=⟨0,rfl,.inl ⟨rfl,HI.out.2⟩,by omega,jv.out.trans' HI.out.1⟩;clear HI HQ ac WW ah aj ag ai af;go_wp2;go_ret2;exact HF.out
  |succ gg=>
   obtain⟨J,CK⟩:=hh2 HI.out.2 HI.out.1;obtain⟨q0,q1,q2,q3,q4,q5,q6⟩:=HQ.out _ CK.out;have V:=ar (jv.out.trans' CK.out);have xZ:k=0\/k=1\/k=2\/k=3\/k=4\/k=5\/k=6:=by omega
   have aa:(k:Int)<7:=by omega
   have cM:(0:Int)<=(k:Int):=by omega
   rcases xZ with h|h|h|h|h|h|h
   have q:wr.cell? ⟨w.heap.size,k,none⟩=some (.func (.func 92) #[] #[]):=by rw[h];exact q0
   rotate_left
   have q:wr.cell? ⟨w.heap.size,k,none⟩=some (.func (.func 93) #[] #[]):=by rw[h];exact q1
   rotate_left
   have q:wr.cell? ⟨w.heap.size,k,none⟩=some (.func (.func 94) #[] #[]):=by rw[h];exact q2
   rotate_left
   have q:wr.cell? ⟨w.heap.size,k,none⟩=some (.func (.func 95) #[] #[]):=by rw[h];exact q3
   rotate_left
   have q:wr.cell? ⟨w.heap.size,k,none⟩=some (.func (.func 96) #[] #[]):=by rw[h];exact q4
   rotate_left
   have q:wr.cell? ⟨w.heap.size,k,none⟩=some (.func (.func 97) #[] #[]):=by rw[h];exact q5
   rotate_left
   have q:wr.cell? ⟨w.heap.size,k,none⟩=some (.func (.func 98) #[] #[]):=by rw[h];exact q6
   rotate_left
   all_goals
    have HE:=ar h;clear h HI HQ q0 q1 q2 q3 q4 q5 q6;go_wp2_with fail
    first
     |refine(ac.out _ V.out).mono ?_
     |refine(WW.out _ V.out).mono ?_
     |refine(ah.out _ V.out).mono ?_
     |refine(aj.out _ V.out).mono ?_
     |refine(ag.out _ V.out).mono ?_
     |refine(ai.out _ V.out).mono ?_
     |refine(af.out _ V.out).mono ?_
    rintro e w2 ⟨r,rfl,hr,U⟩;rw[<-HE.out] at hr;cases r
    ·have HF:Hid (Dn w pP (.returned (.tuple #[((k+1:Nat):Int),false])) w2):=⟨k+1,rfl,.inr ⟨by omega,by omega,λh=>(by cases hr.2 h),J.out⟩,by omega,V.out.trans' U⟩
     clear J CK hr U;go_wp2;go_ret2;exact HF.out
    ·have HN:Hid (ay [] w1 w2/\∀j,j<k+1->pP j):=⟨CK.out.trans' U,λj hj=>by
      by_cases e:j=k
      ·rw[e];exact hr.1 rfl
      ·exact J.out j (by omega)⟩
     clear J CK hr U;go_wp2;go_roundg gg;case measure=>omega
     case rel=>exact⟨k+1,by omega,by go_num,HN.out⟩
def On (s:kp):Prop:=s.now.length=3128/\In64 s.now/\∀k:Nat,k<s.now.length->s.refusal (k:Int)=0/\s.load (k:Int)=s.now.getD k 0
def LR (w:World) (b:Nat) (R:kp->World->Prop) (e:Ending) (w':World):Prop:=
 (∃x s,e= .returned (.tuple #[.pointer none,(x:Int)])/\x=10/\On s/\(∀M,¬∃T own,l6 s.now T own [] M)/\R s w')\/
 (∃f s,e= .returned (.tuple #[(f:Nat),(0:Int)])/\On s/\aai w' f b/\w.heap.size<=f/\(∃M T own,l6 s.now T own [] M)/\R s w')
theorem Wn{V:Nat}(hl:X.length=3128)(z:In64 X)(hs:eN w b V X [])(U:b<w.heap.size/\V<w.heap.size):
  Calls prog 15 #[b] w λe w'=>∃k:Nat,e= .returned (.tuple #[(k:Int),(decide (k=0))])/\ay [] w w'/\Hid (k=0↔∃M T own,l6 X T own [] M):=by
 by_cases W:∃M T own,l6 X T own [] M
 ·obtain⟨M,T,own,Il⟩:=id W
  have G:gK w b V X [] T own:=⟨hs,z,Il.st.gots,U⟩;refine(O4 G).mono ?_;rintro e w' ⟨k,rfl,J,-,h3⟩;refine⟨k,rfl,h3,λ_=>W,λ_=> ?_⟩;rw[zU] at J;exact J.uniq (.inl ⟨rfl,Il.points⟩)
 ·obtain⟨T,own,hg⟩:=ach X
  have G:gK w b V X [] T own:=⟨hs,z,hg,U⟩;refine(O4 G).mono ?_;rintro e w' ⟨k,rfl,J,-,h3⟩;refine⟨k,rfl,h3,λh0=> ?_,λh=>absurd h W⟩;rw[zU] at J;rcases J with ⟨-,h4⟩|⟨h4,-⟩
  ·obtain⟨M,hm⟩:=aeQ hl z hg h4
   exact⟨M,T,own,hm⟩
  ·omega
theorem aav{R:kp->World->Prop}(hR:∀s wa wb,ay [] wa wb->R s wa->R s wb)(h:Calls prog 56 #[b] w λe w'=>e=(0:Int)/\∃s,On s/\fM w' b gn gl gf s/\w.heap.size<=w'.heap.size/\R s w'):
  Calls prog 27 #[b] w (LR w b R):=by
 obtain⟨H,HR⟩:=hh2 h hR;clear h hR;go_in;go_wp2_with fail;refine Rr H.out ?_;rintro w1 ⟨s,J,hp,aa,hr⟩;obtain⟨af,ae,lJ,mO⟩:=hh4 J hr aa (Hs hp J.2.2);have U:Hid (∀z f,ay [] w1 z->aai z f b->w.heap.size<=f->(∃M T own,l6 s.now T own [] M)->LR w b R (.returned (.tuple #[(f:Nat),(0:Int)])) z):=λz f G hf hw Il=> .inr ⟨f,s,rfl,J,hf,hw,Il,HR.out s w1 z G hr⟩
 have V:Hid (∀z,ay [] w1 z->(¬∃M T own,l6 s.now T own [] M)->LR w b R (.returned (.tuple #[.pointer none,(10:Int)])) z):=λz G hn=> .inl ⟨10,s,rfl,rfl,J,λM h2=>hn ⟨M,h2⟩,HR.out s w1 z G hr⟩
 have OS:kN s.now=s.now:=by
  apply cX (by rw[iw,J.1]);intro k h1 h2;have :=uK s.now k;rw[iw] at h1;rw[aj,aD (by rw[iw];exact h1),eZ] at this;rw[this,aB h1,aj,aD h2];rfl
 have ag:Hid (∀z W,eN z W W s.now []->Calls prog 15 #[(W:Nat)] z λe w3=>∃k:Nat,e= .returned (.tuple #[(k:Int),(decide (k=0))])/\ay [] z w3/\Hid (k=0↔∃M T own,l6 s.now T own [] M)):=λz W hs=>Wn J.1 J.2.1 hs ⟨hs.raw.lt,hs.raw.lt⟩
 have ah:=ar OS;clear J hp aa hr HR OS;generalize LR w b R=Q,s.now=X at *;go_wp2_with fail;refine mO.out.mono ?_;rintro e z ⟨v,g,rfl,BV,hg,G⟩;have HN:=A0 BV;rw[ah.out] at HN;obtain⟨HN,fC⟩:=hh2 HN G;clear BV hg G mO ah;go_wp2_with fail;refine HN.out.mono ?_;rintro e w3 ⟨W,rfl,ai,ac,G⟩;obtain⟨HS,og⟩:=hh2 (ag.out w3 W ac) (fC.out.trans' G);clear ai ac G HN ag fC;go_wp2_with fail;refine HS.out.mono ?_;rintro e w4 ⟨k,rfl,G,Ua⟩;have qB:=ar (og.out.trans' G);clear G HS og;by_cases cM:k=0
 ·have HF:Hid (Q (.returned (.tuple #[w4.heap.size,(0:Int)])) (w4.alloc (.cells #[b] 87))):=U.out _ _ (qB.out.alloc _) (bc.new _ _ _) (by have :=qB.out.size;have :=lJ.out;omega) (Ua.out.1 cM)
  subst cM;clear U V Ua af ae lJ;go_wp2;exact HF.out
 ·have hd:decide (k=0)=false:=aP cM
  have HF:=ar (V.out _ qB.out (λh=>cM (Ua.out.2 h)));clear U V Ua af ae lJ cM;go_wp2;exact HF.out
theorem afe (h:In64 X):Fm X:=λx G=>by
 obtain⟨i,z,rfl⟩:=b9 G;have :=h i;rw[aj,aD z,eZ] at this;omega
theorem O5{xs:List Int}(h:fM w b gn gl gf (calm xs d))(G:xs.length=3128)(W:Fm xs)(U:xs.getD 8 0=0):
  Calls prog 56 #[b] w λe w'=>e=(0:Int)/\ay [] w w':=by
 have hs:LG xs=none:=by
  unfold LG I7;rw[U,aA ?_];rintro⟨h1,-⟩;simp at h1
 obtain⟨V,J⟩:=hh2 (I8 (Hd h G) (Rj h G) W hs) (λwx (z:ay [] w wx)=>C4 (h.keep z) 8 (by omega) (by rw[G];omega));rw[show(8:Int).toNat=8 from rfl,U] at J;clear h G W hs U;go_in;go_wp2_with fail;refine Rr V.out λw1 z=> ?_;obtain⟨zn,HK⟩:=hh2 (J.out w1 z) z;clear z J V;go_wp2_with fail;refine C' zn.out ?_;go_wp2;go_ret;exact⟨rfl,HK.out⟩
theorem Fi (G:X.length=3128)(h:In64 X):On (calm X d):=by
 refine⟨G,h,λk J=> ?_⟩;have z:(k:Int)<X.length:=by have :k<X.length:=J;omega
 exact⟨wN (by omega) z,by rw[Kf (by omega) z];rfl⟩
structure Live (W0:World) (f b gn gl gf:Nat) (M:Nat->Nd) (X:List Int) (n:Int) (w:World):Prop where
 fs:aai w f b
 ws:RF X M
 pm:∃d,(0<=d/\d<=n)/\fM w b gn gl gf (calm X d)
 keeps:ay [] W0 w
 new:W0.heap.size<=f/\W0.heap.size<=b/\W0.heap.size<=gn/\W0.heap.size<=gl/\W0.heap.size<=gf
 off:f∉[b,gn,gl,gf]
theorem Live.keep{G:World}(h:Live G f b gn gl gf M X n w){l:List Nat}(J:ay l w w')(V:∀y∈l,G.heap.size<=y/\y∉[f,b,gn,gl,gf]:=by simp):Live G f b gn gl gf M X n w':=by
 obtain⟨d,W,hp⟩:=h.pm;have z:∀y,y∈[f,b,gn,gl,gf]->y∉l:=λy U hm=>(V y hm).2 U
 exact⟨h.fs.keep J (z _ (by simp)),h.ws,⟨d,W,hp.keep J (z _ (by simp)) (λ_=>⟨z _ (by simp),z _ (by simp),z _ (by simp)⟩)⟩,h.keeps.trans J (λy U=> .inr (V y U).1),h.new,h.off⟩
theorem Live.keep0{z:World}(h:Live z f b gn gl gf M X n w)(G:ay [] w w'):Live z f b gn gl gf M X n w':=h.keep G
def Tx (h:World) (f b gn gl gf:Nat) (M:Nat->Nd) (X:List Int) (n:Int) (o:iP) (w:World) (e:Ending) (w':World):Prop:=
 ∃r Z,e= .returned (.agg Z)/\tO w.heap.size w' r Z/\ay [b,gn,gl,gf] w w'/\
  ((r.E≠0/\Live h f b gn gl gf M X n w'/\((r.E=7/\r=cW 7/\Dd o.K=true/\((iJ M o).2.E=0\/(iJ M o).2.E=7)/\((aY X).length<40\/(iJ M o).2.E=7))\/r=(iJ M o).2))\/
  (r.E=0/\(iJ M o).2.E=0/\aeY o r (iJ M o).2/\∃z,Live h f b gn gl gf (iJ M o).1 z (n+3000) w'))
theorem Wo{W0:World}{o:iP}{vp vq vd:Value}(ae:LO M o)(h:Live W0 f b gn gl gf M X n w)(hT:ku W0)(hn:n<=1000000000)(hI:BO w o vp vq vd):
  Calls prog 11 #[f,pJ o vp vq vd] w (Tx W0 f b gn gl gf M X n o w):=by
 obtain⟨d,hd,hp⟩:=h.pm;have J:=h.ws.len;have ag:=hp.old (by show X.length≠0;omega);have U:∀y∈[b,gn,gl,gf],y<w.heap.size:=λy hy=>by
  simp only[aM,aK,bC] at hy;omega
 have xm:=Fi (d:=d) J h.ws.w64;have aa:=acm h.ws.tree h.ws.few (o:=o) hI.ds;refine(acK (X:=X) (M:=M) (ks:=[b,gn,gl,gf]) (C:=λps x w'=>x=0/\fM w' b gn gl gf (calm (nG X ps) (d+(Cc ps:Nat)))) ae h.fs hp rfl xm.2.2 h.ws (hT.keep h.keeps) hI U ?_ ?_).mono ?_
 ·rintro ps x wa wb l hl z ⟨rfl,W⟩
  have G:∀y,y∈[b,gn,gl,gf]->y∉l:=λy hy hm=>by have :=hl y hm;have :=U y hy;omega
  exact⟨rfl,W.keep z (G _ (by simp)) (λ_=>⟨G _ (by simp),G _ (by simp),G _ (by simp)⟩)⟩
 ·intro w1 v g qs r0 z hO h0 hr hg
  obtain⟨-,-,hl⟩:=hO.E_zero h0;obtain⟨c1,c2,c3,-,-⟩:=h.ws.lands hl aa.1;refine Rr (VL (hp.keep z) hd.1 (by omega) J hr c1 c2 c3 (λ_ hm=>by have :=U _ hm;omega)) ?_;rintro w2 ⟨W,h2⟩;exact⟨0,rfl,h2,rfl,W⟩
 ·rintro e w' ⟨r,Z,rfl,W,⟨z,h2,r0,qs,hO,rfl⟩|⟨z,r0,qs,x,hO,h0,⟨rfl,af⟩,⟨-,rfl⟩|⟨hx,-⟩⟩⟩
  ·refine⟨_,Z,rfl,W,z.mono,.inl ⟨h2,h.keep0 z,?_⟩⟩
   have ac:r0.E≠0:=h2;rcases hO with ⟨V,a2,a3,a4⟩|⟨V,a2⟩|⟨V,-⟩
   ·exact .inl ⟨V,by rw[V],a2,a3,a4⟩
   ·exact .inr a2.symm
   ·exact absurd V ac
  ·obtain⟨V,a2,hl⟩:=hO.E_zero h0
   obtain⟨c1,c2,c3,c4,-⟩:=h.ws.lands hl aa.1;have WT:=TF (dm X (az X qs) 3128);refine⟨r,Z,rfl,W,z,.inr ⟨h0,V,a2,_,h.fs.keep z h.off,c4,⟨_,⟨by omega,by omega⟩,af⟩,h.keeps.trans z λy hy=> .inr ?_,h.new,h.off⟩⟩;have :=h.new;simp only[aM,aK,bC] at hy;omega
  ·exact absurd rfl hx
def BQ (J:Array Value):List Value:=[.func (.func 64) #[J] #[],.func (.func 65) #[J] #[],.func (.func 66) #[J] #[],.func (.func 67) #[J] #[],.func (.func 68) #[J] #[],.func (.func 69) #[J] #[],.func (.func 70) #[J] #[],.func (.func 71) #[J] #[],.func (.func 72) #[J] #[],.func (.func 73) #[J] #[],.func (.func 74) #[J] #[],.func (.func 75) #[J] #[],.func (.func 76) #[J] #[]]
theorem aaw (J:Array Value):∀u∈BQ J,u.oneCell'=true:=by
 intro u h;simp only[BQ,aM,aK,bC] at h;rcases h with rfl|rfl|rfl|rfl|rfl|rfl|rfl|rfl|rfl|rfl|rfl|rfl|rfl<;>rfl
theorem Wp:(prog.info? 138).map (·.size)=some 13:=by kernel_rfl
theorem Hy (w:World)(J Z:Array Value)(h:Z.size=13):∃w',(storeVar 138 w.heap.size (.agg (BQ J).toArray)).run prog (w.alloc (.cells Z 138))= .ok () w'/\bc w' w.heap.size (BQ J).toArray 138/\ay [w.heap.size] (w.alloc (.cells Z 138)) w':=
 bE (P:= prog) (cs:=BQ J) (by exact Wp) (bc.new _ _ _) (by rw[h];rfl) (aaw J)
theorem acR (w:World)(b:Nat){o:iP}(h vq vd:Value)(hK:¬(0<=o.K/\o.K<=12)):
  Calls prog 33 #[cC b o h vq vd] w λe w'=>e= .returned (.func (.func 77) #[cC b o h vq vd] #[])/\ay [] w w':=by
 have G:=bc.new w (cC b o h vq vd) 91;have c1:(w.alloc (.cells (cC b o h vq vd) 91)).cell? ⟨w.heap.size,1,none⟩=some (.int .i64 o.K):=by rw[G.cell];rfl
 have V:Hid (∀wx,ay [] (w.alloc (.cells (cC b o h vq vd) 91)) wx->(loadVar 91 w.heap.size).run prog wx= .ok (.agg (cC b o h vq vd)) wx):=λwx hk=>jC (G.keep hk)
 obtain⟨W,hW⟩:∃W,w.alloc (.cells (cC b o h vq vd) 91)=W:=⟨_,rfl⟩;rw[hW] at G c1 V;have jl:=ar (V.out W (ay.refl _ _));generalize hJ:cC b o h vq vd=J at *;obtain⟨U,q1,q2,q3⟩:=Hy W J #[.nilFunc,.nilFunc,.nilFunc,.nilFunc,.nilFunc,.nilFunc,.nilFunc,.nilFunc,.nilFunc,.nilFunc,.nilFunc,.nilFunc,.nilFunc] rfl;have qZ:ay [] W U:=((ay.refl _ _).alloc _).trans q3 (by intro x hx;rw[au] at hx;omega);have z:ay [] w U:=by
  have :ay [] w W:=by rw[<-hW];exact(ay.refl _ _).alloc _
  exact this.trans' qZ
 have c2:U.cell? ⟨w.heap.size,1,none⟩=some (.int .i64 o.K):=by rw[(G.keep qZ).cell,<-hJ];rfl
 obtain⟨vL,HS,fC⟩:=hh3 (V.out U qZ) q1 z;clear V q1 q2 q3 qZ z G c1;by_cases h0:o.K<0
 ·have b1:decide (o.K<0)=true:=bq h0
  generalize o.K=K at *;clear hJ;go_in;go_wp2_with(with_reducible first|refine gL 91 jl.out ?_|refine gS 138 HS.out ?_|refine gL 91 vL.out ?_);go_ret;exact⟨rfl,fC.out⟩
 ·have b1:decide (o.K<0)=false:=aP h0
  have b2:(13:Int)<=o.K:=by omega
  generalize o.K=K at *;clear hJ;go_in;go_wp2_with(with_reducible first|refine gL 91 jl.out ?_|refine gS 138 HS.out ?_|refine gL 91 vL.out ?_);go_ret;exact⟨rfl,fC.out⟩
theorem aax (w:World)(b:Nat){o:iP}(h vq vd:Value){k:Nat}(hK:o.K=(k:Int))(hk:k<13):
  Calls prog 33 #[cC b o h vq vd] w λe w'=>e= .returned ((BQ (cC b o h vq vd)).getD k undef)/\ay [] w w':=by
 have U:=bc.new w (cC b o h vq vd) 91;have c1:(w.alloc (.cells (cC b o h vq vd) 91)).cell? ⟨w.heap.size,1,none⟩=some (.int .i64 o.K):=by rw[U.cell];rfl
 have V:Hid (∀wx,ay [] (w.alloc (.cells (cC b o h vq vd) 91)) wx->(loadVar 91 w.heap.size).run prog wx= .ok (.agg (cC b o h vq vd)) wx):=λwx hk=>jC (U.keep hk)
 obtain⟨W,hW⟩:∃W,w.alloc (.cells (cC b o h vq vd) 91)=W:=⟨_,rfl⟩;rw[hW] at U c1 V;have jl:=ar (V.out W (ay.refl _ _));generalize hJ:cC b o h vq vd=J at *;obtain⟨z,q1,q2,q3⟩:=Hy W J #[.nilFunc,.nilFunc,.nilFunc,.nilFunc,.nilFunc,.nilFunc,.nilFunc,.nilFunc,.nilFunc,.nilFunc,.nilFunc,.nilFunc,.nilFunc] rfl;have qZ:ay [] W z:=((ay.refl _ _).alloc _).trans q3 (by intro x hx;rw[au] at hx;omega);have G:ay [] w z:=by
  have :ay [] w W:=by rw[<-hW];exact(ay.refl _ _).alloc _
  exact this.trans' qZ
 have c2:z.cell? ⟨w.heap.size,1,none⟩=some (.int .i64 o.K):=by rw[(U.keep qZ).cell,<-hJ];rfl
 obtain⟨vL,HS,fC⟩:=hh3 (V.out z qZ) q1 G;have c5:z.cell? ⟨W.heap.size,k,none⟩=some ((BQ J).getD k undef):=by
  rw[q2.cell,aG,aj,aD (show k<(BQ J).length from hk)];rfl
 rw[hK] at c2;have b1:(0:Int)<=(k:Int):=by omega
 have b2:(k:Int)<13:=by omega
 have b3:decide ((k:Int)<0)=false:=aP (by omega);have b4:¬(13:Int)<=(k:Int):=by omega
 clear V q1 q2 q3 qZ G U c1 hJ hK;generalize (BQ J).getD k undef=fv at *;go_in;go_wp2_with(with_reducible first|refine gL 91 jl.out ?_|refine gS 138 HS.out ?_);go_ret;exact⟨rfl,fC.out⟩
end
end Go.Proofs.YtimcfdnbpkiniaaGreatDoor

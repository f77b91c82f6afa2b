/- Lemmas. -/
import Derived.Test.YtimcfdnbpkiniaaGreatDoorM25
set_option maxHeartbeats 4000000
set_option maxRecDepth 100000
namespace Go.Proofs.YtimcfdnbpkiniaaGreatDoor
open Go.Proofs.Tryz
section
open Go.RowKit
variable{A w:World}{J b g gp k n z:Nat}{B X:List Int}{T:List (bS×Value)}{ps:List (Int×Int)}{own:Nat->List Nat}{M:Nat->Nd}{P:Program}{Q:Exit->Act->World->Prop}{a:Act}
theorem RH (w:World):(zeroValue 119).run prog w= .ok (.agg (aX (kN [])).toArray) w:=by kernel_rfl
theorem OY (h:bc w g (aX X).toArray 119)(lx:X.length=3128)(Y:List Int)(z:Y.length=3128):
  ∃w',(storeVar 119 g (.agg (aX Y).toArray)).run prog w= .ok () w'/\bc w' g (aX Y).toArray 119/\ay [g] w w':=by
 refine⟨_,jH g 0 (aX Y) _ (by rw[bA,z];exact vR) h (by rw[bP,bA,bA];omega) (fk Y),?_,(ay.refl _ _).setRow (by simp) _⟩;have e:((aX X).toArray.toList.take 0++aX Y++(aX X).toArray.toList.drop (0+(aX Y).length)).toArray=(aX Y).toArray:=by
  rw[eW,bN,dV (by rw[bA,bA];omega),bz]
 rw[e];exact j4 h
theorem Wh{T:Nat}{Y:List Int}(h:bc w g (aX Y).toArray T)(z:Y.length=n)(G:n<=maxLen):Reads w (.slice g n n) g (aX Y):=by
 refine⟨some ⟨g,0,none⟩,n,by rw[bA,z],by rw[bA,z];exact aI _,G,λ_=>⟨h.lt,0,rfl,λj J=> ?_⟩⟩;rw[h.cell,bp];simp
theorem OZ{us:List (Int×Int)}(h:kP w b gp B X us):
  Calls prog 28 #[b] w (jG w X):=by
 obtain⟨lb,lx,vp,V,h2,h3⟩:=h;have HL:=ar (Fy V lb lx);have hz:=RH;obtain⟨W,z,G,J⟩:=OY (bc.new w (aX (kN [])).toArray 119) (iw []) X lx;have U:=ar z;have HM:Hid (jG w X (.returned (.slice w.heap.size 3128 3128)) W):=
  ⟨_,w.heap.size,rfl,Wh G lx (by simp[maxLen]),aI _,((ay.refl [] w).alloc _).trans J⟩
 clear V h2 h3 z G J lb lx;generalize (aX (kN [])).toArray=Z,(aX X).toArray=Y at *;go_in;go_wp2_with(with_reducible first|refine gL 119 HL.out ?_|refine gS 119 U.out ?_);go_ret;exact HM.out
theorem RI (h:eN w b z B ps):
  Calls prog 28 #[b] w (jG w (az B ps)):=OZ h.raw
theorem aas (F K:Int):aL (Xa F K) (.slice none 0 0)= #[.int .i64 F,.int .i64 K,.int .i64 1,.int .i64 0,.int .i64 0,.int .i64 0,.int .i64 0,.int .i64 0,.int .i64 0,.int .i64 0,.int .i64 0,.int .i64 0,.int .i64 0,.int .i64 0,.int .i64 0,.int .i64 0,.int .i64 0,.slice none 0 0]:=rfl
theorem Hv:aL bY (.slice none 0 0)= #[.int .i64 0,.int .i64 0,.int .i64 0,.int .i64 0,.int .i64 0,.int .i64 0,.int .i64 0,.int .i64 0,.int .i64 0,.int .i64 0,.int .i64 0,.int .i64 0,.int .i64 0,.int .i64 0,.int .i64 0,.int .i64 0,.int .i64 0,.slice none 0 0]:=rfl
theorem O0{W U:World}{R:lX->List (Int×Int)->Prop}{z:Array Value}{e:Ending}(G:b<w.heap.size/\J<w.heap.size)(cM:ay [] w W)(aa:W.heap.size=w.heap.size+2)(jI:bc W (w.heap.size+1) z 38)(hc:z.size=7)(hp:fH W b J B R e U):
  ∃Z h,e= .returned (.agg Z)/\(storeVar 38 (w.heap.size+1:Nat) (.agg Z)).run prog U= .ok () h/\(loadVar 38 (w.heap.size+1:Nat)).run prog h= .ok (.agg Z) h/\fH w b J B R (.returned (.agg Z)) h:=by
 obtain⟨r,Z,qs,kQ,rfl,h1,h2,h3,V,h5,h6⟩:=hp;obtain⟨h,s1,s2,s3⟩:=yu (jI.keep V (eF G (by omega))) hc h1.at;have hr:=h1.keep s3 (λx hx=>by rw[au] at hx;omega);have hs:=s3.size;refine⟨Z,h,rfl,s1,wQ s2 hr.at,r,Z,qs,kQ,rfl,hr.mono (by omega),by omega,h3.keep s3 (by rw[au];omega) (by rw[au];omega),((cM.mono).trans' V).trans s3 (λy hy=>by rw[au] at hy;omega),h5,h6⟩
theorem Kp (h:rz w b gp B [] T own [] M)(hT:dB M){o:iP}{vp vq vd:Value}{g:Nat}(hP:fU w vp g o.P)(hs:∀s∈o.P,s.size<=9223372036854775807)(hK:o.K=0\/o.K=1):
  Calls prog 114 #[cC b o vp vq vd,(1+o.K:Int)] w (fH w b gp B (kY B M o)):=by
 obtain⟨W,hW,cM,jK,jI,av⟩:=mq w (cC b o vp vq vd) (tU fh (.slice none 0 0) (.slice none 0 0));have aa:=ar (Kl (h.keep0 cM) hT o vp vq vd (hP.keep cM) hs);have V:=h.lt;obtain⟨DI,fG,lJ⟩:=hh3 V cM av;have lN:Hid (∀z,ay [b,gp] W z->(loadVar 91 w.heap.size).run prog z= .ok (.agg (cC b o vp vq vd)) z):=λz hk=>jC (jK.keep hk (eF V (by omega)))
 have pX:Hid (∀z,ay [b,gp] W z->z.cell? w.heap.size=some (.pointer (some ⟨b,0,none⟩))/\z.cell? ⟨w.heap.size,2,none⟩=some vp):=λz hk=>by
  have h1:=jK.keep hk (eF V (by omega));exact⟨by rw[h1.cell];rfl,by rw[h1.cell];rfl⟩
 -- an error
 have rh:Hid (∀r,r≠0->(iJ M o).2=cW r->∀w1,ay [] W w1->vI (w.heap.size+1) #[(r:Int),(0:Int),(0:Int),(0:Int),(0:Int),(),()] (fH w b gp B (kY B M o)) w1):=λr U hd w1 hk=>by
  obtain⟨wy,s1,s2,s3,s4⟩:=lG jI rfl hk (by simp) r;exact⟨wy,s1,s2,fH.none h ((cM.trans' hk).trans s4 (by intro y hy;rw[au] at hy;omega)) s3 (.inr (.inl ⟨U,hd⟩))⟩
 have tP:Hid (qx M o.P≠0->(iJ M o).2=cW (qx M o.P)):=V2 hK;have UN:Hid (∀z,ay [] W z->Calls prog 99 #[b] z λe w'=>e=((az B []).getD 1 0:Int)/\z=w'):=λz hk=>yZ ((h.keep0 (cM.trans' hk)).shS)
 -- New: nothing is free, or it is made
 have af:Hid (qx M o.P=0->∀z,ay [] W z->Calls prog 153 #[b,aL (Xa ((az B []).getD 1 0) (1+o.K)) (.slice none 0 0)] z λe G=>∃i r,e= .returned (.tuple #[(i:Int),(r:Int)])/\ay [b,gp] W G/\ay [b,gp] z G/\
   ((r≠0/\vI (w.heap.size+1) #[(r:Int),(0:Int),(0:Int),(0:Int),(0:Int),(),()] (fH w b gp B (kY B M o)) G)\/
   (r=0/\Calls prog 128 #[cC b o vp vq vd,cH (bo M o.P).1 (aQ o.P) false 0,(i:Int)] G λe w3=>∃x wy,e=(x:Int)/\(storeVar 38 (w.heap.size+1:Nat) (.agg #[(x:Int),(i:Int),(0:Int),(0:Int),(0:Int),(),()])).run prog w3= .ok () wy/\(loadVar 38 (w.heap.size+1:Nat)).run prog wy= .ok (.agg #[(x:Int),(i:Int),(0:Int),(0:Int),(0:Int),(),()]) wy/\fH w b gp B (kY B M o) (.returned (.agg #[(x:Int),(i:Int),(0:Int),(0:Int),(0:Int),(),()])) wy))):=λhv z hk=>by
  have ae:=(h.keep0 (cM.trans' hk));have aR:=h.nd.st.sup.2.1;refine(Vl ae.sh ae.nd.st.w64 ae.tab ae.lt.2 (by simp) (Xa ((az B []).getD 1 0) (1+o.K)) (.slice none 0 0) 0 rfl (bD.nil _ _) (λk hk=>by simp[Xa] at hk) (λh=>absurd rfl h)).mono ?_;rintro e G ⟨i,r,qs,kQ,rfl,h1,h2,h3,h4,h5⟩;have qZ:ay [b,gp] W G:=(hk.mono).trans' h3;have aB:kQ=gp\/(W.heap.size<=kQ/\kQ<G.heap.size):=by have :=hk.size;omega
  refine⟨i,r,rfl,qZ,h3,?_⟩;rcases h.nd.made (F:=(az B []).getD 1 0) (K:=1+o.K) aR (by omega) h5 with ⟨rfl,hq,oZ⟩|⟨rfl,j,rfl,hj,aU,Co,aA,oZ⟩
  ·left
   obtain⟨wy,s1,s2,s3,s4⟩:=lG jI rfl qZ (eF V (by omega)) 7;refine⟨by omega,wy,s1,s2,fH.some V cM (by omega) (Rq:=λr qs=>kY B M o (cW 7) qs) (m:=700) ⟨7,qs,kQ,rfl,aB,h2,qZ,h4,.inr (.inl ⟨by show(7:Int)≠0;omega,?_⟩)⟩ (by omega) s4 s3 λqs hq=>hq⟩;rw[Tp hK hv,oZ];rfl
  ·right
   refine⟨rfl,?_⟩;obtain⟨T',cY,g1,g2,g3⟩:=id aA;have aP:=(h.keep0 cM).go h2 qZ aB g1;obtain⟨v1,v2,v3⟩:=zh hv;have hp:=pG (M:=M) v2;have aT:(bo M o.P).1≠j:=λe=>by
    have :=hp.1;rw[e] at this;omega
   refine(Ho aP (by rw[bN];omega) o vp vq vd (d:=(bo M o.P).1) (by rw[dH _ _ aT];exact hp.1) hp.2.1 false 0 (i:=(j:Int)) (by omega)).mono ?_;rintro e w3 ⟨x,q2,lH,rfl,e1,e2,e3,e4,e5⟩;have aD:ay [b,gp] W w3:=qZ.trans e3 λy hy=>by
    simp only[aM,aK,bC] at hy ⊢;omega
   obtain⟨wy,s1,s2,s3,s4⟩:=yA (r:={ fh with N:=(j:Int),E:=x }) jI rfl aD (eF V (by omega)) rfl rfl rfl;have aY:=h3.size;have aW:=e3.size;refine⟨x,wy,rfl,s1,s2,fH.some V cM (by omega) (Rq:=λ_ q=>kY B M o { fh with N:=(j:Int),E:=x } q) (m:=1400) ⟨x,qs++q2,lH,rfl,by have :=hk.size;omega,by rw[<-aV];exact e2,aD,by rw[aC];omega,?_⟩ (by omega) s4 s3 λ_ hq=>hq⟩;refine V3 hT hK hv hj Co aA oZ ?_;have aJ:=e5;rw[br] at aJ;exact aJ
 have EU:=lD;have aX:=oV;have rq:=dC;clear h hT hP hs cM jK jI av V;unfold Rw at aa;rw[lF] at *;generalize fH w b gp B (kY B M o)=Q,qx M o.P=ve,(iJ M o).2=D2,aF:cH (bo M o.P).1 (aQ o.P) false 0=Zs at *;have xp:=ar aF;generalize (az B []).getD 1 0=tg at *;have e0:cH 0 ⟨#[]⟩ false 0= #[.int .i64 0,.string ⟨#[]⟩,.bool false,.int .i64 0]:=rfl;rw[e0] at aa;rw[aas] at af;rw[Hv] at rq;generalize hJ:cC b o vp vq vd=J at *;clear hJ e0 aF;generalize 1+o.K=kk at *;have c2:=(pX.out W (ay.refl _ _)).2;have jl:=ar (lN.out W (ay.refl _ _));go_in;go_wp2_with(with_reducible refine gL 91 jl.out ?_);refine aa.out.mono ?_;rintro e w1 ⟨ac,⟨U,rfl⟩|⟨rfl,rfl⟩⟩
 ·obtain⟨G,p1,p2,p3⟩:=iQ (d:=0) (nm:=⟨#[]⟩) (th:=false) (i:=0) (bc.new w1 #[(0:Int),.string ⟨#[]⟩,false,(0:Int)] 174) rfl
  have eP:ay [] w1 G:=((ay.refl [] w1).alloc _).trans p3 (by intro x hx;rw[au] at hx;omega);obtain⟨wy,s1,s2,s3⟩:=rh.out ve U (tP.out U) G (ac.trans' eP);have b1:(ve != 0)=true:=by simpa using U
  obtain⟨jh,HS,HL,HF⟩:=hh4 p1 s1 s2 s3;clear hW p1 p2 p3 ac eP s1 s2 s3 U aa DI fG lJ lN jl pX rh tP UN af c2 xp;unfold cH at jh;go_wp2_with(with_reducible first|refine gS 174 jh.out ?_|refine gS 38 HS.out ?_);exact aH (bu results114 rfl HL.out) rfl HF.out
 ·have mV:=ar (af.out rfl)
  have ax:bc (w1.alloc (.cells #[(0:Int),.string ⟨#[]⟩,false,(0:Int)] 174)) w1.heap.size #[(0:Int),.string ⟨#[]⟩,false,(0:Int)] 174 :=bc.new w1 _ _;obtain⟨G,p1,p2,p3⟩:=iQ (d:=(bo M o.P).1) (nm:=aQ o.P) (th:=false) (i:=0) ax rfl;rw[xp.out] at p1 p2;have eP:ay [] w1 G:=((ay.refl [] w1).alloc _).trans p3 (by intro x hx;rw[au] at hx;omega);have qZ:=ac.trans' eP;have jh:=ar p1;have JC:Hid (∀z,ay [b,gp] G z->(loadVar 174 w1.heap.size).run prog z= .ok (.agg Zs) z):=λz hk=>by
   have h1:=ac.size;have h2:=lJ.out;have h3:=DI.out;have :=jk (d:=(bo M o.P).1) (nm:=aQ o.P) (th:=false) (i:=0) (by rw[xp.out];exact p2.keep hk (by simp;omega));rwa[xp.out] at this
  obtain⟨aG,Nf⟩:=hh2 (UN.out G.drew qZ.drew) (mV.out G.drew qZ.drew);have aO:=(pX.out G.drew (qZ.drew.mono));obtain⟨c3,-⟩:=aO;have mK:=ar qZ;clear hW p1 p2 p3 ax ac eP qZ aa fG rh tP UN af mV c2 xp jl;go_wp2_with(with_reducible refine gS 174 jh.out ?_);refine Jb (l:=[_,_,_,_,_,_,_]) (o:=_) (l2:=[_,_,_,_,_]) (S:=λz=>z=G.drew) (by kernel_rfl) rfl (by kernel_rfl) (by kernel_rfl) (λd _ _ _ _ h=>by cases d<;>exact h) rfl (by kernel_rfl) (by kernel_rfl) ?_;repeat (
   (first
   |((with_reducible show aS _ _ _ _ (⟨some 25,_,_,_,_,_⟩::_) _);refine aS.cons (.int .i64 tg) (bG.call rfl 99 #[b] ?he ?h) ?_;(case he=>(intro wz;go_simp));(case h=>(intro wz hz;subst hz;refine C' aG.out ?_;exact⟨rfl,rfl⟩)))
   |(refine aS.cons ?_ (bG.val rfl ?h) ?_;(case h=>(intro wz hz;subst hz;go_simp;rfl))));simp only[Act.put,ag,ah,ai])
  refine aS.done λwz hz=> ?_
  subst hz;go_wp2_with fail;refine Nf.out.mono ?_;rintro e w3 ⟨i,r,rfl,aN,ny,hh⟩;have aI:ay [b,gp] G w3:=((ay.refl [] G).drew.mono).trans' ny;obtain⟨ak,yC⟩:=hh2 (JC.out w3 aI) (lN.out w3 aN);clear aN ny aI JC lN Nf aG jh pX DI lJ mK c3;go_wp2_with fail;refine⟨trivial,λz=>z=w3,rfl,?_⟩;repeat (first
   |(refine aS.cons ?_ (bG.val rfl ?h) ?_;(case h=>(intro wz hz;subst hz;go_simp;rfl));simp only[Act.put,ag,ah,ai]))
  refine aS.done λwz hz=> ?_
  subst hz;rcases hh with ⟨U,wy,s1,s2,s3⟩|⟨rfl,aj⟩
  ·have b1:(r != 0)=true:=by simpa using U
   obtain⟨HS,HL,HF⟩:=hh3 s1 s2 s3;clear s1 s2 s3 U ak yC;go_wp2_with(with_reducible refine gS 38 HS.out ?_);exact aH (bu results114 rfl HL.out) rfl HF.out
  ·have HE:=ar aj
   clear aj;go_wp2_with(with_reducible first|refine gL 91 yC.out ?_|refine gL 174 ak.out ?_);refine HE.out.mono ?_;rintro e w4 ⟨x,wy,rfl,s1,s2,s3⟩;obtain⟨HS,HL,HF⟩:=hh3 s1 s2 s3;clear s1 s2 s3 HE ak yC;go_wp2_with(with_reducible refine gS 38 HS.out ?_);exact aH (bu results114 rfl HL.out) rfl HF.out
theorem O3 (h:rz w b z B [] T own [] M)(hT:dB M){o:iP}{vp vq vd:Value}{g:Nat}(hP:fU w vp g o.P)(hs:∀s∈o.P,s.size<=9223372036854775807)(hK:o.K=0):
  Calls prog 64 #[cC b o vp vq vd] w (fH w b z B (kY B M o)):=by
 obtain⟨W,hW,cM,jK,jI,U⟩:=mq w (cC b o vp vq vd) (tU fh (.slice none 0 0) (.slice none 0 0));have hc:=Kp (vq:=vq) (vd:=vd) (h.keep0 cM) hT (hP.keep cM) hs (.inl hK);rw[hK] at hc;obtain⟨HC,jl⟩:=hh2 hc (jC jK);have Ij:Hid (∀e G,fH W b z B (kY B M o) e G->∃Z V,e= .returned (.agg Z)/\(storeVar 38 (w.heap.size+1:Nat) (.agg Z)).run prog G= .ok () V/\(loadVar 38 (w.heap.size+1:Nat)).run prog V= .ok (.agg Z) V/\fH w b z B (kY B M o) (.returned (.agg Z)) V):=λe G hp=>O0 h.lt cM U jI rfl hp
 have EU:=lD;clear h hT hP hs cM jK jI U hc;rw[lF] at *;generalize fH w b z B (kY B M o)=Q,fH W b z B (kY B M o)=Q1,cC b o vp vq vd=J at *;go_in;go_wp2_with(with_reducible refine gL 91 jl.out ?_);refine HC.out.mono ?_;intro e G hp;obtain⟨Z,V,rfl,s1,s2,s3⟩:=Ij.out e G hp;obtain⟨HS,HL,HF⟩:=hh3 s1 s2 s3;clear s1 s2 s3 hp Ij HC hW jl;go_wp2_with(with_reducible refine gS 38 HS.out ?_);exact aH (bu results64 rfl HL.out) rfl HF.out
theorem RJ (h:rz w b z B [] T own [] M)(hT:dB M){o:iP}{vp vq vd:Value}{g:Nat}(hP:fU w vp g o.P)(hs:∀s∈o.P,s.size<=9223372036854775807)(hK:o.K=1):
  Calls prog 65 #[cC b o vp vq vd] w (fH w b z B (kY B M o)):=by
 obtain⟨W,hW,cM,jK,jI,U⟩:=mq w (cC b o vp vq vd) (tU fh (.slice none 0 0) (.slice none 0 0));have hc:=Kp (vq:=vq) (vd:=vd) (h.keep0 cM) hT (hP.keep cM) hs (.inr hK);rw[hK] at hc;obtain⟨HC,jl⟩:=hh2 hc (jC jK);have Ij:Hid (∀e G,fH W b z B (kY B M o) e G->∃Z V,e= .returned (.agg Z)/\(storeVar 38 (w.heap.size+1:Nat) (.agg Z)).run prog G= .ok () V/\(loadVar 38 (w.heap.size+1:Nat)).run prog V= .ok (.agg Z) V/\fH w b z B (kY B M o) (.returned (.agg Z)) V):=λe G hp=>O0 h.lt cM U jI rfl hp
 have EU:=lD;clear h hT hP hs cM jK jI U hc;rw[lF] at *;generalize fH w b z B (kY B M o)=Q,fH W b z B (kY B M o)=Q1,cC b o vp vq vd=J at *;go_in;go_wp2_with(with_reducible refine gL 91 jl.out ?_);refine HC.out.mono ?_;intro e G hp;obtain⟨Z,V,rfl,s1,s2,s3⟩:=Ij.out e G hp;obtain⟨HS,HL,HF⟩:=hh3 s1 s2 s3;clear s1 s2 s3 hp Ij HC hW jl;go_wp2_with(with_reducible refine gS 38 HS.out ?_);exact aH (bu results65 rfl HL.out) rfl HF.out
theorem RL (f:Int):aL (zR f) (.slice none 0 0)= #[.int .i64 f,.int .i64 2,.int .i64 1,.int .i64 0,.int .i64 0,.int .i64 0,.int .i64 0,.int .i64 0,.int .i64 0,.int .i64 0,.int .i64 0,.int .i64 0,.int .i64 0,.int .i64 0,.int .i64 0,.int .i64 0,.int .i64 0,.slice none 0 0]:=rfl
def Laid (w:World) (b gn gl gf:Nat) (d:Int) (w':World):Prop:=
 ∃Y,RF Y Dj/\(aY Y).length=255/\fM w' b gn gl gf (calm Y d)/\ay [b,gn,gl,gf] w w'
theorem afa{gn gl gf:Nat}{xs:List Int}{d:Int}(h:fM w b gn gl gf (calm xs d))(h0:0<=d)(hd:d<100000000000000000)(hx:xs.length=3128)(hT:ku w){f:Int}(hf:f=1\/f=2):
  Calls prog 21 #[b,f] w λe w'=>e=(0:Int)/\Laid w b gn gl gf (d+3520) w':=by
 obtain⟨HN,HL⟩:=hh2 (A0 (w:=w) (v:= .slice none 0 0) (g:=0) (ws:=[]) ⟨none,0,rfl,aI _,by simp[maxLen],λh=>absurd rfl h⟩) (λwx (hk:ay [] w wx)=>Hd (h.keep hk) hx);have ho:=h.old (by show xs.length≠0;omega)
 -- Aim, the puts, the root, settle
 have ac:Hid (∀U J,w.heap.size<=J->ay [] w U->eN U J J (kN []) []->Calls prog 46 #[(J:Nat),f] U λe w2=>e=(0:Int)/\Hid (∃V,(w.heap.size<=V/\V<w2.heap.size)/\eN w2 J V (kN []) [(1,f),(2,0)]/\ay [] w w2)):=λU J hb hk hs=>by
  refine(Zw hs ⟨hs.raw.lt,hs.raw.lt⟩ (by simp) f (OA hs (yB 1))).mono ?_;rintro e w2 ⟨r,qs,V,rfl,hg,G,z,-,hr⟩;have hz:(az (kN []) []).getD 1 0=0:=yB 1;have hq:r=0/\qs=[(1,f),(2,0)]:=by
   rcases hr with ⟨-,h1,-⟩|⟨h1,-,⟨h2,-⟩|⟨-,h2⟩⟩
   ·exact absurd hf h1
   ·rw[hz] at h2;omega
   ·exact⟨h1,h2⟩
  obtain⟨rfl,rfl⟩:=hq;refine⟨rfl,V,by have :=hk.size;have :=z.size;have :=hs.raw.lt;omega,G,hk.trans z λy hy=> .inr (by simp only[aM,aK,bC,or_self] at hy;omega)⟩
 have CW:Hid (∀U J V ps (i x:Int),Sc i=true->ps.length<=10->w.heap.size<=J->(w.heap.size<=V/\V<U.heap.size)->ay [] w U->eN U J V (kN []) ps->Calls prog 47 #[(J:Nat),(i:Int),.int .u64 x] U λe w2=>e= .returned (.tuple #[])/\Hid (∃gG,(w.heap.size<=gG/\gG<w2.heap.size)/\eN w2 J gG (kN []) (ps++[(i,x)])/\ay [] w w2)):=λU J V ps i x hi hp hb hg hk hs=>by
  refine Rr (o7 hs (by omega) i x) ?_;rintro w2 ⟨gG,ak,G,z⟩;rw[z6,aB hi] at G;refine⟨rfl,gG,by have :=hk.size;have :=z.size;omega,G,hk.trans z λy hy=> .inr (by simp only[aM,aK,bC] at hy;omega)⟩
 have Ue:Hid (∀U J V,w.heap.size<=J->(w.heap.size<=V/\V<U.heap.size)->ay [] w U->eN U J V (kN []) (zy f)->Calls prog 48 #[(J:Nat),(0:Int),aL (zR f) (.slice none 0 0)] U λe w2=>e=(0:Int)/\Hid (∃gG Y,RF Y Dj/\(aY Y).length=255/\ay [] w w2/\Calls prog 28 #[(J:Nat)] w2 λe w3=>∃v,e=(v:Value)/\Hid (Calls prog 49 #[b,v] w3 λe w4=>e=(0:Int)/\Hid (gG=gG/\Laid w b gn gl gf (d+3520) w4)))):=λU J V hb hg hk hs=>by
  have aj:J<U.heap.size/\V<U.heap.size:=⟨hs.raw.lt,hg.2⟩;refine(sy hs (adt hf).st.w64 (λwx hx=>hT.keep (hk.trans hx λy hy=> .inr (by simp only[aM,aK,bC] at hy;omega))) aj.2 (by simp[zy]) 0 (zR f) (.slice none 0 0) 0 rfl (bD.nil _ _) (λk hk=>by simp[zR] at hk) (λh=>absurd rfl h)).mono ?_;rintro e w2 ⟨r,qs,gG,rfl,ak,G,z,-,hr⟩;obtain⟨rfl,T,own,Il,oZ,h8⟩:=acJ hf hr;have uB:ay [] w w2:=hk.trans z λy hy=> .inr (by simp only[aM,aK,bC] at hy;omega)
  refine⟨rfl,gG,_,⟨h8,T,own,Il⟩,oZ,uB,?_⟩;refine(RI G).mono ?_;rintro e w3 ⟨v,g,rfl,ah,av,au⟩;refine⟨v,rfl,?_⟩;have EE:=uB.trans' au;show Calls _ _ _ _ _;refine Rr (RG (h.keep EE) h0 hd hx Il.st.len ah (by have :=uB.size;intro hm;simp only[aM,aK,bC] at hm;omega)) ?_;rintro w4 ⟨h1,h2⟩;exact⟨rfl,rfl,_,⟨h8,T,own,Il⟩,oZ,h1,(EE.mono).trans' h2⟩
 rw[RL] at Ue;clear h h0 hd hx hT hf ho;generalize Laid w b gn gl gf (d+3520)=Q at *;go_in;go_wp2_with fail;refine HN.out.mono ?_;rintro e U ⟨J,rfl,aa,af,hk⟩;obtain⟨zn,HA,Qs⟩:=hh3 (HL.out U hk) (ac.out U J aa hk af) aa;clear hk HL HN ac af aa;go_wp2_with fail;refine C' zn.out ?_;go_wp2_with fail;refine Rr HA.out λw2 hr=> ?_;obtain⟨V,W,G,z⟩:=hr.out;have HP:=ar (CW.out w2 J V _ 0 7596835243318849792 (by decide) (by simp) Qs.out W z G);clear hr W G z HA zn;go_wp2_with fail;refine Rr HP.out λw3 hr=> ?_;obtain⟨Rk,W,G,z⟩:=hr.out;have mP:=ar (CW.out w3 J Rk _ 2 32 (by decide) (by simp) Qs.out W z G);clear hr W G z HP CW;go_wp2_with fail;refine Rr mP.out λw4 hr=> ?_;obtain⟨ai,W,G,z⟩:=hr.out;have HI:=ar (Ue.out w4 J ai Qs.out W z G);have rq:=dC;rw[Hv] at rq;clear hr W G z mP Ue Qs;go_wp2_with fail;refine Rr HI.out λw5 hr=> ?_;obtain⟨-,-,-,-,-,hw⟩:=hr.out;have ag:=ar hw;clear hr hw HI;go_wp2_with fail;refine ag.out.mono ?_;rintro e w6 ⟨v,rfl,ae⟩;clear ag;go_wp2_with fail;refine Rr ae.out λw7 hq=> ?_;clear ae;go_wp2;go_ret;exact⟨rfl,hq.out.2⟩
def adv {α:Type} (n:Nat) (P:Program) (gf:Nat) (lb:Array Value) (U:α->Array Value) (Rd:Nat->α->World->Prop) (S Sp:List α->Prop) (N:Nat) (C:List Nat) (w:World):Prop:=
 ∀(l:Nat) (J G:List α->World->Prop) (W:World),ay [] w W->w.heap.size<=l->l<W.heap.size->
  (∀h A z,J h A->ay [] A z->J h z)->(∀h A z,G h A->ay [] A z->G h z)->
  (∀h x A,J h A->h.length<N->Rd l x A->YieldAt Fence.wide (n-1) P l (U x) A λe z=>
   (e=true/\J (h++[x]) z/\ay (l::C) A z)\/(e=false/\G (h++[x]) z))->
  J [] W->
  CallsIn Fence.wide n P gf (#[.func (.yield l) #[] #[]]++lb) W λe V=>(∃v,e=(v:Value))/\((∃xs,S xs/\J xs V)\/(∃h,Sp h/\G h V))
def vK {α:Type} (C:List Nat) (I:List α->World->Prop) (h:Code->List α->World->Prop) (xs:List α) (W:World):Exit->Act->World->Prop
 | .normal,_,W'=>ay C W W'/\I xs W'
 | .ret,_,W'=>ay C W W'/\h .ret xs W'
 | .exit id,_,W'=>ay C W W'/\h (.exit id) xs W'
 | .goto t,_,W'=>ay C W W'/\h (.goto t) xs W'
 | .panic _,_,_=>False
 | .outgrown,_,_=>False
theorem rV (W:World)(l:Nat)(o:Obj):ay [l] W (W.putObj l o):=
 ⟨rfl,rfl,rfl,by simp,λk _ h=>World.putObj_heap_other (by simpa using h)⟩
theorem tS{α:Type}{g:Operand}{ps:Array Tmp}{assign body:Code}(h1:1<=n){gf:Nat}{lb:Array Value}(hg:a.eval g= .func (.func gf) #[] lb)(eg:∀args w,(callFunc gf args).run P w= .ok (.enter gf args) w)
  {ar:α->Array Value} {Rd:Nat->α->World->Prop} {S Sp:List α->Prop} {N:Nat} {C:List Nat} (az:adv (n-1) P gf lb ar Rd S Sp N C w) (hC:∀k∈C,k<w.heap.size) (aF:∀x,(ar x).size=ps.size)
  (I:List α->World->Prop) (Ix:Code->List α->World->Prop) (hI:∀G A J,I G A->Below w.heap.size A J->I G J) (ae:∀c G A J,Ix c G A->Below w.heap.size A J->Ix c G J) (h0:I [] w)
  (aB:∀l x A J,Rd l x A->ay [l] A J->Rd l x J) (Ax:α->Act->World->Prop) (aD:∀l x a' A J,w.heap.size<=l->(∃r,A.heap[l]? =some (.loop r))->Ax x a' A->ay [l] A J->Ax x a' J)
  (aL:∀(l:Nat) (x:α) (W:World) (K:Act->World->Prop),Rd l x W->w.heap.size<W.heap.size->(∀a' W',ay [] W W'->Ax x a' W'->K a' W')->
   assign.wpIn (Fence.wide.inRound l) (n-1-1) P (Exit.then K (λ_ _ _=>False)) { tmps:=(ps.zip (ar x)).foldl (λt (p,v)=>t.setIfInBounds p v) a.tmps,defers:=[] } W)
  (aH:∀l x A J,Rd l x A->ay [] A J->Rd l x J)
  (ax:∀(l:Nat) (G:List α) (x:α) (a':Act) (W:World),w.heap.size<l->l<W.heap.size->I G W->G.length<N->Rd l x W->Ax x a' W->body.wpIn (Fence.wide.inRound l) (n-1-1) P (vK C I Ix (G++[x]) W) a' W)
  (ak:∀(D:Nat) (xs:List α) (W:World),w.heap.size<=D->S xs->I xs W->W.heap[D]? =some (.deferred (some []))->Q .normal { a with defers:={ target:= .collected D,args:= #[] }::a.defers } W)
  (aG:∀(D:Nat) (c:Code) (G:List α) (W:World),w.heap.size<=D->Sp G->Ix c G W->W.heap[D]? =some (.deferred (some []))->c.wpIn Fence.wide n P Q { a with defers:={ target:= .collected D,args:= #[] }::a.defers } W):
  (Code.rangeFunc g ps assign body).wpIn Fence.wide n P Q a w:=by
 refine wpIn_rangeFunc λfn aJ=> ?_
 let U:LoopState->Option Code->Obj:=λst pe=> .loop { state:=st,pending:=pe,fn,tmps:=a.tmps,params:=ps,assign,body,defers:=w.heap.size }
 have e0:(w.alloc (.deferred (some []))).heap.size=w.heap.size+1:=aU _ _;have aj:∀{A J:World},w.heap.size<=A.heap.size->ay [w.heap.size+1] A J->Below w.heap.size A J:=λhA hk=>hk.below hA λk hk=>by rw[au] at hk;omega
 have ah:∀{A J:World},w.heap.size<=A.heap.size->ay [] A J->Below w.heap.size A J:=λhA hk=>hk.below hA λk hk=>by simp at hk
 obtain⟨W1,ac⟩:∃W1,(w.alloc (.deferred (some []))).alloc (U .ready none)=W1:=⟨_,rfl⟩;have r1:W1.heap[w.heap.size+1]? =some (U .ready none):=by rw[<-ac,<-e0];exact World.alloc_heap_new _ _
 have d1:W1.heap[w.heap.size]? =some (.deferred (some [])):=by rw[<-ac];exact(jF _ _ _ (by rw[e0];omega)).trans (World.alloc_heap_new w _)
 have k1:ay [] w W1:=by rw[<-ac];exact((ay.refl [] w).alloc _).alloc _
 have s1:W1.heap.size=w.heap.size+2:=by rw[<-ac,aU,e0]
 refine⟨w.heap.size+1,[{ target:= .collected w.heap.size,args:= #[] }],W1,{ target:= .fn (.func gf) lb,args:= #[.func (.yield (w.heap.size+1)) #[] #[]] },W1,gf,#[.func (.yield (w.heap.size+1)) #[] #[]]++lb,W1,by rw[<-ac];exact run_enterLoop_outer _ _ _ _ _,?_,λ_ _=>trivial,?_,λ_=>h1,?_⟩
 ·simp only[resolve,hg]
  simp[go_sem]
 ·simp[invoke,go_sem,eg]
 refine(az (w.heap.size+1) (λG A=>I G A/\A.heap[w.heap.size+1]? =some (U .ready none)/\A.heap[w.heap.size]? =some (.deferred (some [])))
  (λG A=>∃c,Ix c G A/\A.heap[w.heap.size+1]? =some (U .done (some c))/\A.heap[w.heap.size]? =some (.deferred (some []))) W1 k1 (by omega) (by omega) ?_ ?_ ?_ ⟨hI _ _ _ h0 (ah (aI _) k1),r1,d1⟩).mono ?_
 ·rintro G A J ⟨i1,i2,i3⟩ hk
  have l2:=(Array.getElem?_eq_some_iff.1 i2).1;exact⟨hI _ _ _ i1 (ah (by omega) hk),(hk.block _ l2 (by simp)).trans i2,(hk.block _ (by omega) (by simp)).trans i3⟩
 ·rintro G A J ⟨c,i1,i2,i3⟩ hk
  have l2:=(Array.getElem?_eq_some_iff.1 i2).1;exact⟨c,ae _ _ _ _ i1 (ah (by omega) hk),(hk.block _ l2 (by simp)).trans i2,(hk.block _ (by omega) (by simp)).trans i3⟩
 ·rintro G x A ⟨i1,i2,i3⟩ hN hr
  have l2:=(Array.getElem?_eq_some_iff.1 i2).1;refine⟨fn,_,assign,body,run_yield i2 (aF x),roundIn_of_wpIn aJ (aL _ x A _ hr (by omega) λa' A2 aa aA=> ?_)⟩;have j2:A2.heap[w.heap.size+1]? =some (U .ready none):=(aa.block _ l2 (by simp)).trans i2;have j3:A2.heap[w.heap.size]? =some (.deferred (some [])):=(aa.block _ (by omega) (by simp)).trans i3;have l3:w.heap.size+1<A2.heap.size:=(Array.getElem?_eq_some_iff.1 j2).1;refine⟨_,run_beginRound j2 rfl,?_⟩;have af:=rV A2 (w.heap.size+1) (U .busy none);obtain⟨A3,ag⟩:∃A3,A2.putObj (w.heap.size+1) (U .busy none)=A3:=⟨_,rfl⟩;have m2:A3.heap[w.heap.size+1]? =some (U .busy none):=by rw[<-ag];exact World.putObj_heap_same l3
  have m3:A3.heap[w.heap.size]? =some (.deferred (some [])):=by rw[<-ag];exact(World.putObj_heap_other (by omega)).trans j3
  rw[ag] at af;have l4:w.heap.size+1<A3.heap.size:=(Array.getElem?_eq_some_iff.1 m2).1;show body.wpIn _ _ _ _ a' (A2.putObj (w.heap.size+1) (U .busy none));rw[ag];have aC:I G A3:=hI _ _ _ (hI _ _ _ i1 (ah (by omega) aa)) (aj (by omega) af);refine wpIn_mono (ax _ G x a' A3 (by omega) l4 aC hN (aB _ _ _ _ (aH _ _ _ _ hr aa) af) (aD _ _ _ _ _ (by omega) ⟨_,j2⟩ aA af)) ?_;have ai:∀(z:Option Code) (V:World),ay C A3 V->(Instr.endRound (w.heap.size+1) z).run P V= .ok (.bool z.isNone) (V.putObj (w.heap.size+1) (U (if z.isNone then .ready else .done) z))/\
    Below w.heap.size V (V.putObj (w.heap.size+1) (U (if z.isNone then .ready else .done) z))/\(V.putObj (w.heap.size+1) (U (if z.isNone then .ready else .done) z)).heap[w.heap.size+1]? =some (U (if z.isNone then .ready else .done) z)/\
    (V.putObj (w.heap.size+1) (U (if z.isNone then .ready else .done) z)).heap[w.heap.size]? =some (.deferred (some []))/\ay ((w.heap.size+1)::C) A (V.putObj (w.heap.size+1) (U (if z.isNone then .ready else .done) z)):=λz V av=>by
   have n2:V.heap[w.heap.size+1]? =some (U .busy none):=(av.block _ l4 λhm=>by have :=hC _ hm;omega).trans m2;have n3:V.heap[w.heap.size]? =some (.deferred (some [])):=(av.block _ (by omega) λhm=>by have :=hC _ hm;omega).trans m3;have l5:=(Array.getElem?_eq_some_iff.1 n2).1;have gD:=rV V (w.heap.size+1) (U (if z.isNone then .ready else .done) z);refine⟨run_endRound (P:=P) z n2,aj (by omega) gD,World.putObj_heap_same l5,(World.putObj_heap_other (by omega)).trans n3,?_⟩;have q1:ay ((w.heap.size+1)::C) A A3:=(aa.mono (l':=(w.heap.size+1)::C) (by simp)).trans af;have q2:ay ((w.heap.size+1)::C) A V:=q1.trans av λx hx=> .inl (by simp[hx])
   exact q2.trans gD
  rintro e a3 V hp;cases e with
  |normal=>
   obtain⟨f1,f2,f3,f4,f5⟩:=ai none V hp.1;exact⟨_,_,f1,.inl ⟨rfl,⟨hI _ _ _ hp.2 f2,f3,f4⟩,f5⟩⟩
  |ret=>
   obtain⟨f1,f2,f3,f4,f5⟩:=ai (some .ret) V hp.1;exact⟨_,_,f1,.inr ⟨rfl,.ret,ae _ _ _ _ hp.2 f2,f3,f4⟩⟩
  |exit id=>
   obtain⟨f1,f2,f3,f4,f5⟩:=ai (some (.exit id)) V hp.1;exact⟨_,_,f1,.inr ⟨rfl,.exit id,ae _ _ _ _ hp.2 f2,f3,f4⟩⟩
  |goto t=>
   obtain⟨f1,f2,f3,f4,f5⟩:=ai (some (.goto t)) V hp.1;exact⟨_,_,f1,.inr ⟨rfl,.goto t,ae _ _ _ _ hp.2 f2,f3,f4⟩⟩
  |panic ch=>exact hp.elim
  |outgrown=>exact hp.elim
 ·rintro e A ⟨⟨v,rfl⟩,h⟩
  rcases h with ⟨xs,hS,i1,i2,i3⟩|⟨G,aK,c,i1,i2,i3⟩
  ·have l2:=(Array.getElem?_eq_some_iff.1 i2).1
   have gD:=rV A (w.heap.size+1) (U .exhausted none);exact⟨none,_,run_endLoop (P:=P) i2 (by simp),ak _ xs _ (aI _) hS (hI _ _ _ i1 (aj (by omega) gD)) ((World.putObj_heap_other (by omega)).trans i3)⟩
  ·have l2:=(Array.getElem?_eq_some_iff.1 i2).1
   have gD:=rV A (w.heap.size+1) (U .exhausted (some c));exact⟨some c,_,run_endLoop (P:=P) i2 (by simp),aG _ c G _ (aI _) aK (ae _ _ _ _ i1 (aj (by omega) gD)) ((World.putObj_heap_other (by omega)).trans i3)⟩
theorem Dl{z:Array Oper}{S:World->Prop}{r:Option Nat}(hm:P.follows .mixedOrders=true)(V:¬LetsOut Q)(U:Bi z=true)(ht:xb .any z z.size z.size=true)(hQ:∀d v c a w,Q (.panic c) (Act.put a d v) w->Q (.panic c) a w)(G:S w.drew)
  (W:Region.ready .any z (dG z.size z.size)=[]) (h:aS P z S (Q .normal) z.toList a):(Code.region J z true).wpIn { Fence.wide with round:=r } n P Q a w:=by
 refine xJ hm V (Bj U) ?_;rw[<-kF];refine oo (S:=λ_=>S) (F:=z.size) (L:=z.size) _ _ _ ?_ _ G;refine JA (m:=z.size) ht (aI _) (aI _) hQ (E:=λa=>∀w,S w->Q .normal a w) (λa h=> ?_) z.toList 0 a (by simp) (aI _) (λk hk=>by simp) (aS.toB _ _ h);rw[ja];exact⟨W,h⟩
section
variable {P:Program} {n:Nat} {r:Option Nat} {ops:Array Oper} {Q:Exit->Act->World->Prop} {rest:List Oper} {o:Oper} {a:Act} {w:World}
theorem pM (U:Region.wanted o (yielded ops a.tmps)=true)(ty:TypeId)(x:Operand)(G:o.op= .load ty x)(z:Addr)(J:a.eval x= .pointer (some z))(v:Value)
  (V:(loadVar ty z).run P w= .ok v w) (h:wpListIn { Fence.wide with round:=r } n P ops Q rest (a.put o.dst v) w):wpListIn { Fence.wide with round:=r } n P ops Q (o::rest) a w:=by
 unfold wpListIn;rw[aB U];refine vS (λc e=>by rw[G] at e;cases e) ?_;unfold Oper.wp execOp;simp only[G,J,Instr.loadAt,Instr.sureAddr,ck,fQ,cN,V];exact h
theorem jL (U:Region.wanted o (yielded ops a.tmps)=true)(ty:TypeId)(x y:Operand)(G:o.op= .store ty x y)(z:Addr)(J:a.eval x= .pointer (some z))(v:Value)(W:a.eval y=v)(w':World)
  (V:(storeVar ty z v).run P w= .ok () w') (h:wpListIn { Fence.wide with round:=r } n P ops Q rest (a.put o.dst undef) w'):wpListIn { Fence.wide with round:=r } n P ops Q (o::rest) a w:=by
 unfold wpListIn;rw[aB U];refine vS (λc e=>by rw[G] at e;cases e) ?_;unfold Oper.wp execOp;simp only[G,J,W,Instr.storeAt,Instr.sureAddr,ck,fQ,cN,V];exact h
end
end
section
open Go.RowKit Go.Shelf
variable{A w:World}{J b g gp k n z:Nat}{B X:List Int}{T:List (bS×Value)}{ps:List (Int×Int)}{own:Nat->List Nat}{M:Nat->Nd}{P:Program}{Q:Exit->Act->World->Prop}{a:Act}
attribute [local go_sem] jV
structure GX where
 i:Nat
 n:bS
 v:Value
def Wi (x:GX):Array Value:= #[.int .i64 (x.i:Int),.agg (aL x.n x.v)]
def lL (x:GX):Nat×bS:=(x.i,x.n)
theorem Kq (T:List (bS×Value)):∀k,(kG T k).length<=k
 |0=>aI _
 |k+1=>by
  have :=Kq T k;unfold kG;rw[aC];split<;>simp<;>omega
def RdG (T:List (bS×Value)) (l:Nat) (x:GX) (A:World):Prop:=
 x.i<32/\x.n=nT T x.i/\x.n.F≠0/\x.n.B.length=13/\∃g,l<g/\bD A x.v g x.n.E
theorem RdG.keep{l:Nat}{x:GX}{z:World}(h:RdG T l x A){m:List Nat}(V:ay m A z)(hm:∀k∈m,k<=l:=by simp):RdG T l x z:=by
 obtain⟨G,h2,h3,U,g,W,J⟩:=h;exact⟨G,h2,h3,U,g,W,J.keep V λ_ hg=>by have :=hm _ hg;omega⟩
theorem RM (b:Nat)(w:World):Calls prog 138 #[b] w λe w'=>
  e= .returned (.func (.func 168) #[] #[w.heap.size])/\w'=w.alloc (.cells #[b] 49):=by
 go_in;go_wp2;go_ret;exact⟨rfl,rfl⟩
theorem acP (n l V b gp:Nat)(B:List Int)(ps:List (Int×Int))(T:List (bS×Value))(own:Nat->List Nat)(hn:1<=n)(C:List Nat)(hC:∀k∈C,k≠V/\k≠b/\k≠gp)(J Jx:List GX->World->Prop)
  (hJ:∀z A A',J z A->ay [] A A'->J z A') (hl:l≠V/\l≠b/\l≠gp)
  (hY:∀z x A,J z A->z.length<32->RdG T l x A->YieldAt Fence.wide (n-1) prog l (Wi x) A λe A'=>
   (e=true/\J (z++[x]) A'/\ay (l::C) A A')\/(e=false/\Jx (z++[x]) A'))
  (W:World) (aj:l<W.heap.size) (ak:bc W V #[b] 49) (hs:gK W b gp B ps T own) (h0:J [] W):
  CallsIn Fence.wide n prog 168 #[.func (.yield l) #[] #[],V] W λe W'=>(∃v,e=(v:Value))/\
   ((∃xs:List GX,xs.map lL=kG T 32/\J xs W')\/(∃z:List GX,(z≠[]/\∀x∈z,lL x∈kG T 32)/\Jx z W')):=by
 have rq:=dC;obtain⟨Z0,CY⟩:∃Z0,aL bY (.slice none 0 0)=Z0:=⟨_,rfl⟩;have K3:Hid (Z0.size=18):=by show _=_;rw[<-CY];rfl
 rw[CY] at rq;clear CY;obtain⟨HC,Eu⟩:=hh2 hC hl;have ai:Hid (([]:List GX).map lL=kG T 0/\J [] W/\gK W b gp B ps T own/\bc W V #[b] 49/\l<W.heap.size):=⟨rfl,h0,hs,ak,aj⟩;clear hC hl h0 hs ak aj;refine callsIn_of_wp func168 rfl trivial ?_ rfl;simp only[ntmps168,bP,cA,cD,Nat.reduceAdd,Nat.reduceSub,fX,fY,iA,gU,bN,iO]
 gi_wp2
 gi_loopw [7] (λi wr=>∃(k:Nat) (z:List GX),k<=32/\i= .int .i64 (k:Int)/\Hid (z.map lL=kG T k/\J z wr/\gK wr b gp B ps T own/\bc wr V #[b] 49/\l<wr.heap.size))
  (λi _=>32-(intOf i).toNat)
 case atStart=>exact⟨0,[],by omega,rfl,ai.out⟩
 case round=>
  clear ai;obtain⟨k,z,hk,rfl,G⟩:=hrel;by_cases ac:k<32
  ·have xa:(k:Int)<32:=by omega
   have c0:wr.cell? V=some (.pointer (some ⟨b,0,none⟩)):=by rw[G.out.2.2.2.1.cell];rfl
   have HG:=ar (G.out.2.2.1.get ac)
   gi_wp2
   refine⟨trivial,callsIn_wide.2 (HG.out.mono ?_)⟩;rintro e w3 ⟨v,g,va,ga,r,rfl,hB,hE,hg,hO,xe,af,hr⟩;obtain⟨w4,p1,p2,p3⟩:=cr (n:=nT T k) (v:=v) (bc.new w3 Z0 75) K3.out hB hE.one;have tY:=ar p1;have U:ay [] wr w4:=af.trans' (((ay.refl [] w3).alloc _).trans p3 (by intro x hx;rw[au] at hx;omega));obtain⟨qB,aC⟩:=hh2 U (bZ p2 hB);have aa:=hJ _ _ _ G.out.2.1 U;have Ie:Hid (gK w4 b gp B ps T own/\bc w4 V #[b] 49/\l<w4.heap.size):=⟨G.out.2.2.1.keep0 U,G.out.2.2.2.1.keep U,by have :=G.out.2.2.2.2;have :=U.size;omega⟩;have WZ:bD w4 v g (nT T k).E:=hE.keep (((ay.refl [w3.heap.size] w3).alloc (.cells Z0 75)).trans' p3) (λh0=>hE.apart (l:=[w3.heap.size]) (λx hx=>by rw[au] at hx;omega) h0);have X5:Hid ((nT T k).F≠0->kG T (k+1)=kG T k++[(k,nT T k)]):=λh=>by show kG T k++_=_;rw[aA h]
   have ag:Hid ((nT T k).F=0->kG T (k+1)=kG T k):=λh=>by show kG T k++_=_;rw[aB h,bz]
   by_cases h0:r=0
   ·subst h0
    have hF:(nT T k).F≠0:=by
     rcases hr with ⟨-,h⟩|⟨h,-⟩|⟨h,-⟩
     ·exact h
     ·omega
     ·omega
    have av:z.length<32:=by
     have h1:=cP List.length G.out.1;rw[b7] at h1;have h2:=Kq T k;omega
    obtain⟨fn,tmps,assign,body,hy,hR⟩:=hY z ⟨k,nT T k,v⟩ w4 aa av ⟨ac,rfl,hF,hB,g,by have :=G.out.2.2.2.2;omega,WZ⟩;have FX:Hid ((z++[(⟨k,nT T k,v⟩:GX)]).map lL=kG T (k+1)):=by
     show _=_;rw[X5.out hF,ez,G.out.1];rfl
    have ah:Hid (∀A',ay (l::C) w4 A'->gK A' b gp B ps T own/\bc A' V #[b] 49/\l<A'.heap.size):=λA' hk=>by
     have hc:=HC.out;have ae:=Eu.out;refine⟨Ie.out.1.keep hk λq hq=> .inr ?_,Ie.out.2.1.keep hk λhm=> ?_,bQ Ie.out.2.2 hk.size⟩
     ·rcases aM.1 hq with rfl|hq
      ·exact⟨ae.2.1,ae.2.2⟩
      ·exact⟨(hc q hq).2.1,(hc q hq).2.2⟩
     ·rcases aM.1 hm with e|hm
      ·exact ae.1 e.symm
      ·exact(hc V hm).1 rfl
    unfold Wi at hy
    dsimp only at hy
    clear hr hF aa WZ Ie hE hB hg hO xe af U p1 p2 p3 X5 ag G c0 av ac;generalize aL (nT T k) v=ZN at *
    gi_wp2_with (first|((with_reducible show wpListIn _ _ _ _ _ (⟨_,.store 75 (.tmp 4) (.tmp 14),_,_,_,_⟩::_) _ _);refine jL (r:=none) rfl 75 (.tmp 4) (.tmp 14) rfl _ rfl _ rfl _ tY.out ?_)|((with_reducible show wpListIn _ _ _ _ _ (⟨_,.load 75 (.tmp 4),_,_,_,_⟩::_) _ _);refine pM (r:=none) rfl 75 (.tmp 4) rfl _ rfl _ aC.out ?_))
    refine hR.mono ?_;rintro e W5 (⟨rfl,ax,kr⟩|⟨rfl,az⟩)
    ·have HF:Hid ((z++[(⟨k,nT T k,v⟩:GX)]).map lL=kG T (k+1)/\J (z++[⟨k,nT T k,v⟩]) W5/\gK W5 b gp B ps T own/\bc W5 V #[b] 49/\l<W5.heap.size):=⟨FX.out,ax,ah.out _ kr⟩
     clear ax kr FX ah
     gi_wp2
     go_roundw
     case rel=>exact⟨k+1,_,by omega,by go_num,HF.out⟩
     case measure=>simp[intOf];omega
    ·have HF:Hid ((z++[(⟨k,nT T k,v⟩:GX)])≠[]/\∀x∈z++[(⟨k,nT T k,v⟩:GX)],lL x∈kG T 32):=by
      refine⟨by simp,λx hx=> ?_⟩;have h1:lL x∈(z++[(⟨k,nT T k,v⟩:GX)]).map lL:=bH.2 ⟨x,hx,rfl⟩;rw[FX.out] at h1;obtain⟨a1,a2,a3⟩:=oP.1 h1;exact oP.2 ⟨by omega,a2,a3⟩
     clear FX ah
     gi_wp2
     refine aH (results_none rfl _ _ _) rfl ?_;exact⟨⟨_,rfl⟩,.inr ⟨_,HF.out,az⟩⟩
   ·have b0:(r==0)=false:=by simpa using h0
    have hF:(nT T k).F=0:=by
     rcases hr with ⟨h,-⟩|⟨-,h,-⟩|⟨-,h,-⟩
     ·exact absurd h h0
     ·exact h
     ·exact h
    have HF:Hid (z.map lL=kG T (k+1)/\J z w4/\gK w4 b gp B ps T own/\bc w4 V #[b] 49/\l<w4.heap.size):=⟨by rw[ag.out hF];exact G.out.1,aa,Ie.out⟩;clear hr hF aa WZ Ie hE hB hg hO xe af U p1 p2 p3 h0 X5 ag G c0;generalize aL (nT T k) v=ZN at *
    gi_wp2_with ((with_reducible show wpListIn _ _ _ _ _ (⟨_,.store 75 (.tmp 4) (.tmp 14),_,_,_,_⟩::_) _ _);refine jL (r:=none) rfl 75 (.tmp 4) (.tmp 14) rfl _ rfl _ rfl _ tY.out ?_)
    refine⟨λ_ h=>(by cases h),?_⟩
    gi_wp2
    go_roundw
    case rel=>exact⟨k+1,_,by omega,by go_num,HF.out⟩
    case measure=>simp[intOf];omega
  ·obtain rfl:k=32:=by omega
   have HF:=ar (And.intro G.out.1 G.out.2.1);clear G ac hk
   gi_wp2
   go_end0;exact⟨⟨_,rfl⟩,.inl ⟨z,HF.out.1,HF.out.2⟩⟩
theorem Dm (hn:1<=n){w:World}{G b V:Nat}{B:List Int}{ps:List (Int×Int)}{T:List (bS×Value)}{own:Nat->List Nat}(hs:gK w b V B ps T own)(z:bc w G #[b] 49){C:List Nat}(hC:∀k∈C,k≠G/\k≠b/\k≠V):
  adv n prog 168 #[G] Wi (RdG T) (λxs=>xs.map lL=kG T 32) (λh=>h≠[]/\∀x∈h,lL x∈kG T 32) 32 C w:=by
 intro l J Jx W hk hl U hJ _ hY h0;have h1:=z.lt;have h2:=hs.lt;exact acP n l G b V B ps T own hn C hC J Jx hJ ⟨by omega,by omega,by omega⟩ hY W U (z.keep hk) (hs.keep0 hk) h0
end
section
open Go.RowKit
variable{A w:World}{J b g gp k n z:Nat}{B X:List Int}{T:List (bS×Value)}{ps:List (Int×Int)}{own:Nat->List Nat}{M:Nat->Nd}{P:Program}{Q:Exit->Act->World->Prop}{a:Act}
theorem Wj (G:k<32){b:Int}:b∈oO T (k:Int)↔∃j,j<(nT T k).E.length/\jq (nT T k).E j=b:=by
 unfold oO;rw[aB,aF];constructor
 ·intro h
  obtain⟨j,z,e⟩:=b9 h;rw[b7] at z;rw[iN] at e;exact⟨j,z,by rw[<-e];simp[jq,z]⟩
 ·rintro⟨j,z,e⟩
  refine bH.2 ⟨(nT T k).E[j],bM z,?_⟩;rw[<-e];simp[jq,z]
end
section
open Go.RowKit Go.Shelf
variable{A w:World}{J b g gp k n z:Nat}{B X:List Int}{T:List (bS×Value)}{ps:List (Int×Int)}{own:Nat->List Nat}{M:Nat->Nd}{P:Program}{Q:Exit->Act->World->Prop}{a:Act}
attribute [local go_sem] jV
theorem bc.low{z:World}{c:Array Value}{T:Nat}(h:bc A k c T)(G:Below n A z)(J:k<n):bc z k c T:=(G.block k J).trans h
theorem ay.below_trans{l:List Nat}{G:World}(h:ay l w A)(z:Below n A G)(V:w.heap.size<=n):ay l w G:=
 ⟨z.os.trans h.os,z.tape.trans h.tape,z.output.trans h.output,cL h.size z.size,λk J U=>(z.block k (by omega)).trans (h.block k J U)⟩
theorem Hw (h:gK w b gp B ps T own):
  Calls prog 137 #[b] w λe w'=>e=(dJ (dP 32 (lM T))).toArray/\ay [] w w':=by
 have bq:=N5;have rq:=dC;obtain⟨Z0,CY⟩:∃Z0,aL bY (.slice none 0 0)=Z0:=⟨_,rfl⟩;have K3:Hid (Z0.size=18):=by show _=_;rw[<-CY];rfl
 rw[CY] at rq;clear CY;have HS:=ar h;clear h;generalize YG:(dJ (dP 32 λ_=>0)).toArray=ZC at *;have aD:=ar YG;clear YG;refine(callsIn_wide (n:=5)).1 (callsIn_of_wp_marks func137 rfl trivial (wpIn_wide.2 ?_) rfl);simp only[ntmps137,bP,cA,cD,Nat.reduceAdd,Nat.reduceSub,fX,fY,iA,gU,bN,iO];go_wp2_with fail;refine Rr (RM b _) λw2 U=> ?_;go_wp2_with fail;rw[<-U];have aG:w2.heap.size=w.heap.size+3:=by rw[U];simp
 have L9:bc w2 (w.heap.size+1) ZC 189 :=by
  have :=(bc.new (w.alloc (.cells ZC 189)) ZC 189).alloc (.cells #[b] 49);rw[aU] at this;rw[U];exact this
 have jI:bc w2 w.heap.size ZC 189 :=by
  rw[U];exact((bc.new w ZC 189).alloc _).alloc _
 have rZ:bc w2 (w.heap.size+1+1) #[b] 49 :=by
  have :=bc.new ((w.alloc (.cells ZC 189)).alloc (.cells ZC 189)) #[b] 49;rw[aU,aU] at this;rw[U];exact this
 have af:ay [] w w2:=by
  rw[U];exact(((ay.refl [] w).alloc _).alloc _).alloc _
 have aM:=HS.out.keep0 af;have aR:=HS.out.lt;have wT:=Dm (n:=5-1) (by omega) aM rZ (C:=[w.heap.size+1]) (λk J=>by rw[au] at J;subst J;omega);have aj:=HS.out.gots.elen;have ai:=HS.out.gots.tabS;have ah:=HS.out.gots.tabN;clear U aM rZ;refine(wpIn_wide (n:=5)).1 ?_;refine tS (by omega) (gf:= 168) (lb:= #[.pointer (some ⟨w.heap.size+1+1,0,none⟩)]) rfl (enters_of func168 (by kernel_rfl) rfl) wT (λk J=>by rw[au] at J;subst J;omega) (λ_=>rfl)
  (λG A=>ay [] w A/\bc A (w.heap.size+1) (dJ (dP 32 λq=>xt (G.map lL) q)).toArray 189/\bc A w.heap.size ZC 189/\∀q,xt (G.map lL) q<=24*G.length)
  (λ_ _ _=>False)
  (λG A A' h hb=>⟨h.1.below_trans hb (by omega),h.2.1.low hb (by omega),h.2.2.1.low hb (by omega),h.2.2.2⟩)
  (λ_ _ _ _ h _=>h)
  ⟨af,by have :=L9;rw[<-aD.out] at this;exact this,jI,λq=>fD _⟩
  (λl x A A' h J=>h.keep J λk J=>by rw[au] at J;omega)
  (λx a' W=>∃g5,bc W g5 (aL x.n x.v) 75/\w2.heap.size<=g5/\a'={ tmps:= #[.pointer (some ⟨b,0,none⟩),undef,.pointer (some ⟨w.heap.size,0,none⟩),.pointer (some ⟨w.heap.size+1,0,none⟩),undef,.pointer (some ⟨g5,0,none⟩),undef,undef,.pointer (some ⟨b,0,none⟩),.func (.func 168) #[] #[(w.heap.size+1+1:Nat)],.int .i64 (x.i:Int),.agg (aL x.n x.v),undef,undef,undef,undef,undef,undef,undef,undef,undef,undef,undef,undef,undef,undef,undef],defers:=[] })
  (λl x a' A A' _ hr h J=>by
   obtain⟨g5,h1,h2,h3⟩:=h;obtain⟨r,hr⟩:=hr;refine⟨g5,h1.keep J λhm=> ?_,h2,h3⟩;rw[au] at hm;subst hm;rw[h1] at hr;cases hr)
  ?assign (λl x A A' h J=>h.keep J) ?body ?done ?stop
 case stop=>
  rintro D c G W _ _ h _;exact h.elim
 case assign=>
  rintro l x W K ⟨h1,h2,h3,h4,g,h5,h6⟩ bz hK;obtain⟨w4,p1,p2,p3⟩:=cr (n:=x.n) (v:=x.v) (bc.new W Z0 75) K3.out h4 h6.one;have tY:=ar p1;have aV:ay [] W w4:=((ay.refl [] W).alloc _).trans p3 (by intro x hx;rw[au] at hx;omega);have HF:=ar (hK _ w4 aV ⟨W.heap.size,p2,by omega,rfl⟩);clear p1 p2 p3 aV hK h1 h2 h3 h4 h5 h6;unfold Wi;generalize aL x.n x.v=ZN at *
  gi_wp2_with ((with_reducible show wpListIn _ _ _ _ _ (⟨_,.store 75 (.tmp 5) (.tmp 11),_,_,_,_⟩::_) _ _);refine jL (r:=some l) rfl 75 (.tmp 5) (.tmp 11) rfl _ rfl _ rfl _ tY.out ?_)
  exact HF.out
 case body=>
  rintro l G x a' W hl bo ⟨jY,Mh,AG,ag⟩ hN ⟨aS,ae,ba,bh,g,hg,hE⟩ ⟨g5,rQ,bj,rfl⟩;have aX:x.n.E.length<=24:=by rw[ae];exact aj x.i
  have Q8:Hid (∀j,j<x.n.E.length->0<=jq x.n.E j/\jq x.n.E j<32):=λj hj=>by
   have hm:=ah (x.i:Int) (jq x.n.E j) ((Wj aS).2 ⟨j,by rw[<-ae];exact hj,by rw[ae]⟩);exact hm
  have mV:Hid (∀V,ay [w.heap.size+1] W V->bc V (w.heap.size+1) (dJ (dP 32 λq=>xt (G.map lL) q+zx x.n.E x.n.E.length q)).toArray 189->vK [w.heap.size+1] (λG A=>ay [] w A/\bc A (w.heap.size+1) (dJ (dP 32 λq=>xt (G.map lL) q)).toArray 189/\bc A w.heap.size ZC 189/\∀q,xt (G.map lL) q<=24*G.length) (λ_ _ _=>False) (G++[x]) W .normal { tmps:= #[],defers:=[] } V):=λV J hb=>by
   have e:∀q,xt ((G++[x]).map lL) q=xt (G.map lL) q+zx x.n.E x.n.E.length q:=λq=>by
    rw[ez,Ef];rfl
   refine⟨J,jY.trans J (by intro y hy;rw[au] at hy;omega),?_,AG.keep J,λq=> ?_⟩
   ·rw[tC λq _=>e q]
    exact hb
   ·have h1:=ag q
    have h2:=S5 x.n.E x.n.E.length q;rw[e,aC,List.length_singleton];omega
  obtain⟨an,cn,hv,bn,Uo,ax⟩:=hE.open;have aJ:W.cell? ⟨g5,17,none⟩=some (.slice an x.n.E.length cn):=by rw[rQ.cell,<-hv];exact(fT _ bh).f5
  have ac:=ar ax;have aK:Hid (ay [w.heap.size+1] W W/\bc W (w.heap.size+1) (dJ (dP 32 λq=>xt (G.map lL) q+zx x.n.E 0 q)).toArray 189):=⟨ay.refl _ _,by
   rw[tC (f':=λq=>xt (G.map lL) q) λq _=>by rw[Vt,dE]];exact Mh⟩
  have aH:=ar ag;have bw:Hid (g<W.heap.size\/x.n.E.length=0):=by
   by_cases h0:x.n.E.length=0
   ·exact .inr h0
   ·exact .inl (ax 0 (by omega)).1
  have aW:Hid (l<g/\w.heap.size+2<l):=⟨hg,by omega⟩;have bp:=Ee;have aI:Hid (G.length<32):=hN;clear jY Mh AG ag hN hE hv ax aS ae ba hg aj ai ah rQ bj L9 jI af aG aR HS;generalize aL x.n x.v=ZN,xt (G.map lL)=fP at *;obtain⟨mE,av⟩:∃mE,x.n.E.length=mE:=⟨_,rfl⟩;have aZ:=ar av;rw[av] at aJ ac Q8 mV aX;clear av;generalize x.n.E=E at *
  gi_wp2
  gi_loopw [15] (λi wr=>∃j:Nat,j<=mE/\i= .int .i64 (j:Int)/\Hid (ay [w.heap.size+1] W wr/\bc wr (w.heap.size+1) (dJ (dP 32 λq=>fP q+zx E j q)).toArray 189))
   (λi _=>mE-(intOf i).toNat)
  case atStart=>exact⟨0,by omega,rfl,aK.out⟩
  case round=>
   clear aK aJ;obtain⟨j,hj,rfl,HI⟩:=hrel;by_cases aa:j<mE
   ·have ES:(j:Int)<(mE:Int):=by omega
    have Co:(0:Int)<=(j:Int):=by omega
    obtain⟨bl,off,rfl,d1,d2⟩:=ac.out j aa;have az:=HI.out.1.block g bl (by rw[au];have :=aW.out;omega);have bf:Hid ((loadVar 99 ⟨g,off+j*2,none⟩).run prog wr= .ok (.agg #[.string (eY E j),(jq E j:Int)]) wr):=
     tv ((aO (w:=W) (a:=⟨g,off+j*2,none⟩) az).trans d1) ((aO (w:=W) (a:=⟨g,off+j*2+1,none⟩) az).trans d2)
    obtain⟨bg,br⟩:=Q8.out j aa;have aT:=λq=>Vu (E:=E) (j:=j) (by rw[aZ.out];exact aa) q
    have aN:=λq=>S5 E j q
    generalize jq E j=yi at *;obtain⟨y,rfl⟩:=cz bg;have aY:y<32:=by omega
    obtain⟨w6,p1,p2,p3⟩:=Bz (eY E j) (y:Int) (bc.new wr #[.string ⟨#[]⟩,(0:Int)] 99) rfl;have jE:ay [] wr w6:=((ay.refl [] wr).alloc _).trans p3 (by intro x hx;rw[au] at hx;omega);have c1:w6.cell? ⟨wr.heap.size,1,none⟩=some (.int .i64 (y:Int)):=by rw[p2.cell];rfl
    have tX:=HI.out.2.keep jE;have c2:=Lx tX (j:=y) aY;obtain⟨z,hz⟩:∃z,fP y+zx E j y=z:=⟨_,rfl⟩;rw[hz] at c2;have bv:z<=1000:=by have :=aH.out y;have :=aN y;have :=aI.out;omega
    have Pz:Hid (∀x:Int,x=((z+1:Nat):Int)->bc (w6.setCell ⟨w.heap.size+1,y,none⟩ (.int .i64 x)) (w.heap.size+1) (dJ (dP 32 λq=>fP q+zx E (j+1) q)).toArray 189):=λx hx=>N4 tX y (λq hq=>by
     rw[aT q];by_cases e:q=y
     ·subst e;rw[aB rfl,aB rfl];omega
     ·rw[aA e,aA];omega) (by rw[hx,hz])
    have f2:=tX.frozen y;have mK:Hid (ay [w.heap.size+1] W w6):=HI.out.1.trans' (jE.mono);have Gl:=ar p1;have bt:(0:Int)<=(y:Int):=by omega
    clear HI az d1 d2 aT aN hz p1 p2 p3 jE tX mV Q8 ac aH aI;generalize eY E j=sj at *
    gi_wp2_with (first|((with_reducible show wpListIn _ _ _ _ _ (⟨_,.load 99 (.tmp 17),_,_,_,_⟩::_) _ _);refine pM (r:=some l) rfl 99 (.tmp 17) rfl _ rfl _ bf.out ?_)|((with_reducible show wpListIn _ _ _ _ _ (⟨_,.store 99 (.tmp 7) (.tmp 18),_,_,_,_⟩::_) _ _);refine jL (r:=some l) rfl 99 (.tmp 7) (.tmp 18) rfl _ rfl _ rfl _ Gl.out ?_))
    go_roundw
    case rel=>exact⟨j+1,by omega,by go_num,mK.out.setCell (.inl (by simp)) _,Pz.out _ (by go_num)⟩
    case measure=>simp[intOf];omega
   ·obtain rfl:j=mE:=by omega
    have HF:=ar (mV.out _ HI.out.1 HI.out.2);clear HI mV Q8 ac hj aa
    gi_wp2
    exact HF.out
 case done=>
  rintro D xs W hD aQ ⟨jY,Mh,AG,-⟩ JM;rw[aQ,tC (λq _=>Zb ai 32 q)] at Mh;have aP:Hid ((loadVar 189 (w.heap.size+1:Nat)).run prog W= .ok (.agg (dJ (dP 32 (lM T))).toArray) W):=N7 Mh;obtain⟨wS,p1,p2,p3⟩:=J9 (f':=lM T) (show bc W w.heap.size (dJ (dP 32 λ_=>0)).toArray 189 by rw[aD.out];exact AG);have T8:=ar p1;have bb:Hid (wS.heap[D]? =some (.deferred (some []))):=(p3.block D (Array.getElem?_eq_some_iff.1 JM).1 (by rw[au];omega)).trans JM;have qN:Hid (∀V,ay [D] wS V->(loadVar 189 w.heap.size).run prog V= .ok (.agg (dJ (dP 32 (lM T))).toArray) V/\ay [] w V):=λV J=>⟨N7 (p2.keep J (by rw[au];omega)),(jY.trans p3 (by intro y hy;rw[au] at hy;omega)).trans J (by intro y hy;rw[au] at hy;omega)⟩
  clear jY Mh AG JM aQ p1 p2 p3 L9 jI af aG aR HS aD aj ai ah;obtain⟨ZR,ak⟩:∃ZR,(dJ (dP 32 (lM T))).toArray=ZR:=⟨_,rfl⟩;rw[ak] at aP T8 qN;have bk:=ar ak;clear ak;go_wp2_with(with_reducible first|refine gL 189 aP.out ?_|refine gS 189 T8.out ?_);refine ml [D] wS (by simp) (λD' aF=>by rw[au] at aF;subst aF;exact bb.out) λV J=> ?_
  obtain⟨h1,h2⟩:=qN.out V J;exact⟨_,bu results137 rfl h1,by rw[<-bk.out],h2⟩
end
end Go.Proofs.YtimcfdnbpkiniaaGreatDoor

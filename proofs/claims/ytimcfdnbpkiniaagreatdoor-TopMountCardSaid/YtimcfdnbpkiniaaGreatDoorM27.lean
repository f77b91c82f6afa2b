/- Lemmas. -/
import Derived.Test.YtimcfdnbpkiniaaGreatDoorM26
set_option maxHeartbeats 4000000
set_option maxRecDepth 100000
namespace Go.Proofs.YtimcfdnbpkiniaaGreatDoor
open Go.Proofs.Tryz
section
open Go.RowKit
variable{A w:World}{b gp k n z:Nat}{B:List Int}{T:List (bT×Value)}{own:Nat->List Nat}{M:Nat->Nd}{P:Program}{Q:Exit->Act->World->Prop}{a:Act}
theorem aam (F K:Int):aM (W8 F K) (.slice none 0 0)= #[.int .i64 F,.int .i64 K,.int .i64 1,.int .i64 0,.int .i64 0,.int .i64 0,.int .i64 0,.int .i64 0,.int .i64 0,.int .i64 0,.int .i64 0,.int .i64 0,.int .i64 0,.int .i64 0,.int .i64 0,.int .i64 0,.int .i64 0,.slice none 0 0]:=rfl
theorem Ih:aM ck (.slice none 0 0)= #[.int .i64 0,.int .i64 0,.int .i64 0,.int .i64 0,.int .i64 0,.int .i64 0,.int .i64 0,.int .i64 0,.int .i64 0,.int .i64 0,.int .i64 0,.int .i64 0,.int .i64 0,.int .i64 0,.int .i64 0,.int .i64 0,.int .i64 0,.slice none 0 0]:=rfl
theorem O6{W w1:World}{G:Nat}{R:mM->List (Int×Int)->Prop}{z:Array Value}{e:Ending}(J:b<w.heap.size/\G<w.heap.size)(cM:ay [] w W)(aa:W.heap.size=w.heap.size+2)(jL:bh W (w.heap.size+1) z 38)(hc:z.size=7)(hp:fF W b G B R e w1):
  ∃Z h,e= .returned (.agg Z)/\(storeVar 38 (w.heap.size+1:Nat) (.agg Z)).run prog w1= .ok () h/\(loadVar 38 (w.heap.size+1:Nat)).run prog h= .ok (.agg Z) h/\fF w b G B R (.returned (.agg Z)) h:=by
 obtain⟨r,Z,qs,kX,rfl,U,h2,h3,V,h5,h6⟩:=hp;obtain⟨h,s1,s2,s3⟩:=BZ (jL.keep V (eD J (by omega))) hc U.at;have hr:=U.keep s3 (λx hx=>by rw[au] at hx;omega);have hs:=s3.size;refine⟨Z,h,rfl,s1,zq s2 hr.at,r,Z,qs,kX,rfl,hr.mono (by omega),by omega,h3.keep s3 (by rw[au];omega) (by rw[au];omega),((cM.mono (by simp)).trans' V).trans s3 (λy hy=>by rw[au] at hy;omega),h5,h6⟩
theorem Kv (h:rC w b gp B [] T own [] M)(hT:dw M){o:jz}{vp vq vd:Value}{g:Nat}(hP:gN w vp g o.P)(hs:∀s∈o.P,s.size<=9223372036854775807)(hK:o.K=0\/o.K=1):
  Calls prog 114 #[cB b o vp vq vd,(1+o.K:Int)] w (fF w b gp B (lv B M o)):=by
 obtain⟨W,hW,cM,jN,jL,aF⟩:=mI w (cB b o vp vq vd) (zo fy (.slice none 0 0) (.slice none 0 0));have ae:=ar (Kr (h.keep0 cM) hT o vp vq vd (hP.keep cM (by simp)) hs);have aa:=h.lt;obtain⟨Fe,fJ,lU⟩:=hh3 aa cM aF;have lY:Hid (∀z,ay [b,gp] W z->(loadVar 91 w.heap.size).run prog z= .ok (.agg (cB b o vp vq vd)) z):=λz V=>jG (jN.keep V (eD aa (by omega)))
 have qd:Hid (∀z,ay [b,gp] W z->z.cell? w.heap.size=some (.pointer (some ⟨b,0,none⟩))/\z.cell? ⟨w.heap.size,2,none⟩=some vp):=λz V=>by
  have h1:=jN.keep V (eD aa (by omega));exact⟨by rw[h1.cell];rfl,by rw[h1.cell];rfl⟩
 -- an error
 have rz:Hid (∀r,r≠0->(ko M o).2=cW r->∀w1,ay [] W w1->vL (w.heap.size+1) #[(r:Int),(0:Int),(0:Int),(0:Int),(0:Int),(),()] (fF w b gp B (lv B M o)) w1):=λr U hd w1 V=>by
  obtain⟨wy,s1,s2,s3,s4⟩:=lM jL rfl V (by simp) r;exact⟨wy,s1,s2,fF.none h ((cM.trans' V).trans s4 (by intro y hy;rw[au] at hy;omega)) s3 (.inr (.inl ⟨U,hd⟩))⟩
 have tV:Hid (qG M o.P≠0->(ko M o).2=cW (qG M o.P)):=V4 hK;have UQ:Hid (∀z,ay [] W z->Calls prog 99 #[b] z λe w'=>e=((az B []).getD 1 0:Int)/\z=w'):=λz V=>zg ((h.keep0 (cM.trans' V)).shS)
 -- New: nothing is free, or it is made
 have aj:Hid (qG M o.P=0->∀z,ay [] W z->Calls prog 153 #[b,aM (W8 ((az B []).getD 1 0) (1+o.K)) (.slice none 0 0)] z λe G=>∃i r,e= .returned (.tuple #[(i:Int),(r:Int)])/\ay [b,gp] W G/\ay [b,gp] z G/\
   ((r≠0/\vL (w.heap.size+1) #[(r:Int),(0:Int),(0:Int),(0:Int),(0:Int),(),()] (fF w b gp B (lv B M o)) G)\/
   (r=0/\Calls prog 128 #[cB b o vp vq vd,cH (bq M o.P).1 (aS o.P) false 0,(i:Int)] G λe w3=>∃x wy,e=(x:Int)/\(storeVar 38 (w.heap.size+1:Nat) (.agg #[(x:Int),(i:Int),(0:Int),(0:Int),(0:Int),(),()])).run prog w3= .ok () wy/\(loadVar 38 (w.heap.size+1:Nat)).run prog wy= .ok (.agg #[(x:Int),(i:Int),(0:Int),(0:Int),(0:Int),(),()]) wy/\fF w b gp B (lv B M o) (.returned (.agg #[(x:Int),(i:Int),(0:Int),(0:Int),(0:Int),(),()])) wy))):=λhv z V=>by
  have af:=(h.keep0 (cM.trans' V));have aQ:=h.nd.st.sup.2.1;refine(Vm af.sh af.nd.st.w64 af.tab af.lt.2 (by simp) (W8 ((az B []).getD 1 0) (1+o.K)) (.slice none 0 0) 0 rfl (bD.nil _ _) (λk V=>by simp[W8] at V) (λh=>absurd rfl h)).mono ?_;rintro e G ⟨i,r,qs,kX,rfl,h1,h2,h3,h4,h5⟩;have rq:ay [b,gp] W G:=(V.mono (by simp)).trans' h3;have aG:kX=gp\/(W.heap.size<=kX/\kX<G.heap.size):=by have :=V.size;omega
  refine⟨i,r,rfl,rq,h3,?_⟩;rcases h.nd.made (F:=(az B []).getD 1 0) (K:=1+o.K) aQ (by omega) h5 with ⟨rfl,hq,po⟩|⟨rfl,j,rfl,hj,aX,Ci,aH,po⟩
  ·left
   obtain⟨wy,s1,s2,s3,s4⟩:=lM jL rfl rq (eD aa (by omega)) 7;refine⟨by omega,wy,s1,s2,fF.some aa cM (by omega) (Rq:=λr qs=>lv B M o (cW 7) qs) (m:=700) ⟨7,qs,kX,rfl,aG,h2,rq,h4,.inr (.inl ⟨by show(7:Int)≠0;omega,?_⟩)⟩ (by omega) s4 s3 λqs hq=>hq⟩;rw[Tu hK hv,po];rfl
  ·right
   refine⟨rfl,?_⟩;obtain⟨T',cX,g1,g2,g3⟩:=id aH;have aR:=(h.keep0 cM).go h2 rq aG g1;obtain⟨v1,v2,v3⟩:=zt hv;have hp:=pU (M:=M) v2;have aT:(bq M o.P).1≠j:=λe=>by
    have :=hp.1;rw[e] at this;omega
   refine(H9 aR (by rw[bQ];omega) o vp vq vd (d:=(bq M o.P).1) (by rw[dJ _ _ aT];exact hp.1) hp.2.1 false 0 (i:=(j:Int)) (by omega)).mono ?_;rintro e w3 ⟨x,q2,lS,rfl,e1,e2,e3,e4,e5⟩;have aD:ay [b,gp] W w3:=rq.trans e3 λy hy=>by
    simp only[aL,aK,bC] at hy ⊢;omega
   obtain⟨wy,s1,s2,s3,s4⟩:=yJ (r:={ fy with N:=(j:Int),E:=x }) jL rfl aD (eD aa (by omega)) rfl rfl rfl;have aZ:=h3.size;have aY:=e3.size;refine⟨x,wy,rfl,s1,s2,fF.some aa cM (by omega) (Rq:=λ_ q=>lv B M o { fy with N:=(j:Int),E:=x } q) (m:=1400) ⟨x,qs++q2,lS,rfl,by have :=V.size;omega,by rw[<-aV];exact e2,aD,by rw[aC];omega,?_⟩ (by omega) s4 s3 λ_ hq=>hq⟩;refine V5 hT hK hv hj Ci aH po ?_;have aN:=e5;rw[bz] at aN;exact aN
 have Gm:=l6;have aW:=pg;have rH:=dA;clear h hT hP hs cM jN jL aF aa;unfold Rx at ae;rw[lL] at *;generalize fF w b gp B (lv B M o)=Q,qG M o.P=ve,(ko M o).2=D2,aO:cH (bq M o.P).1 (aS o.P) false 0=Zs at *;have xt:=ar aO;generalize (az B []).getD 1 0=tg at *;have e0:cH 0 ⟨#[]⟩ false 0= #[.int .i64 0,.string ⟨#[]⟩,.bool false,.int .i64 0]:=rfl;rw[e0] at ae;rw[aam] at aj;rw[Ih] at rH;generalize hJ:cB b o vp vq vd=J at *;clear hJ e0 aO;generalize 1+o.K=kk at *;have c2:=(qd.out W (ay.refl _ _)).2;have jo:=ar (lY.out W (ay.refl _ _));go_in;go_wp2_with(with_reducible refine gL 91 jo.out ?_);refine ae.out.mono ?_;rintro e w1 ⟨ac,⟨U,rfl⟩|⟨rfl,rfl⟩⟩
 ·obtain⟨G,p1,p2,p3⟩:=iU (d:=0) (nm:=⟨#[]⟩) (th:=false) (i:=0) (bh.new w1 #[(0:Int),.string ⟨#[]⟩,false,(0:Int)] 174) rfl
  have eV:ay [] w1 G:=((ay.refl [] w1).alloc _).trans p3 (by intro x hx;rw[au] at hx;omega);obtain⟨wy,s1,s2,s3⟩:=rz.out ve U (tV.out U) G (ac.trans' eV);have b1:(ve != 0)=true:=by simpa using U
  obtain⟨jw,HS,HL,HF⟩:=hh4 p1 s1 s2 s3;clear hW p1 p2 p3 ac eV s1 s2 s3 U ae Fe fJ lU lY jo qd rz tV UQ aj c2 xt;unfold cH at jw;go_wp2_with(with_reducible first|refine gS 174 jw.out ?_|refine gS 38 HS.out ?_);exact aI (bA results114 rfl HL.out) rfl HF.out
 ·have nE:=ar (aj.out rfl)
  have aA:bh (w1.alloc (.cells #[(0:Int),.string ⟨#[]⟩,false,(0:Int)] 174)) w1.heap.size #[(0:Int),.string ⟨#[]⟩,false,(0:Int)] 174 :=bh.new w1 _ _;obtain⟨G,p1,p2,p3⟩:=iU (d:=(bq M o.P).1) (nm:=aS o.P) (th:=false) (i:=0) aA rfl;rw[xt.out] at p1 p2;have eV:ay [] w1 G:=((ay.refl [] w1).alloc _).trans p3 (by intro x hx;rw[au] at hx;omega);have rq:=ac.trans' eV;have jw:=ar p1;have JJ:Hid (∀z,ay [b,gp] G z->(loadVar 174 w1.heap.size).run prog z= .ok (.agg Zs) z):=λz V=>by
   have h1:=ac.size;have h2:=lU.out;have h3:=Fe.out;have :=jn (d:=(bq M o.P).1) (nm:=aS o.P) (th:=false) (i:=0) (by rw[xt.out];exact p2.keep V (by simp;omega));rwa[xt.out] at this
  obtain⟨ax,Qs⟩:=hh2 (UQ.out G.drew rq.drew) (nE.out G.drew rq.drew);have aP:=(qd.out G.drew (rq.drew.mono (by simp)));obtain⟨c3,-⟩:=aP;have nK:=ar rq;clear hW p1 p2 p3 aA ac eV rq ae fJ rz tV UQ aj nE c2 xt jo;go_wp2_with(with_reducible refine gS 174 jw.out ?_);refine Jh (l:=[_,_,_,_,_,_,_]) (o:=_) (l2:=[_,_,_,_,_]) (S:=λz=>z=G.drew) (by kernel_rfl) rfl (by kernel_rfl) (by kernel_rfl) (λd _ _ _ _ h=>by cases d<;>exact h) rfl (by kernel_rfl) (by kernel_rfl) ?_;repeat (
   (first
   |((with_reducible show aU _ _ _ _ (⟨some 25,_,_,_,_,_⟩::_) _);refine aU.cons (.int .i64 tg) (bR.call rfl 99 #[b] ?he ?h) ?_;(case he=>(intro wz;go_simp));(case h=>(intro wz hz;subst hz;refine C' ax.out ?_;exact⟨rfl,rfl⟩)))
   |(refine aU.cons ?_ (bR.val rfl ?h) ?_;(case h=>(intro wz hz;subst hz;go_simp;rfl))));simp only[Act.put,ag,ah,ai])
  refine aU.done λwz hz=> ?_
  subst hz;go_wp2_with fail;refine Qs.out.mono ?_;rintro e w3 ⟨i,r,rfl,aB,nD,hh⟩;have aJ:ay [b,gp] G w3:=((ay.refl [] G).drew.mono (by simp)).trans' nD;obtain⟨av,yL⟩:=hh2 (JJ.out w3 aJ) (lY.out w3 aB);clear aB nD aJ JJ lY Qs ax jw qd Fe lU nK c3;go_wp2_with fail;refine⟨trivial,λz=>z=w3,rfl,?_⟩;repeat (first
   |(refine aU.cons ?_ (bR.val rfl ?h) ?_;(case h=>(intro wz hz;subst hz;go_simp;rfl));simp only[Act.put,ag,ah,ai]))
  refine aU.done λwz hz=> ?_
  subst hz;rcases hh with ⟨U,wy,s1,s2,s3⟩|⟨rfl,ak⟩
  ·have b1:(r != 0)=true:=by simpa using U
   obtain⟨HS,HL,HF⟩:=hh3 s1 s2 s3;clear s1 s2 s3 U av yL;go_wp2_with(with_reducible refine gS 38 HS.out ?_);exact aI (bA results114 rfl HL.out) rfl HF.out
  ·have HE:=ar ak
   clear ak;go_wp2_with(with_reducible first|refine gL 91 yL.out ?_|refine gL 174 av.out ?_);refine HE.out.mono ?_;rintro e w4 ⟨x,wy,rfl,s1,s2,s3⟩;obtain⟨HS,HL,HF⟩:=hh3 s1 s2 s3;clear s1 s2 s3 HE av yL;go_wp2_with(with_reducible refine gS 38 HS.out ?_);exact aI (bA results114 rfl HL.out) rfl HF.out
theorem O7 (h:rC w b z B [] T own [] M)(hT:dw M){o:jz}{vp vq vd:Value}{g:Nat}(hP:gN w vp g o.P)(hs:∀s∈o.P,s.size<=9223372036854775807)(hK:o.K=0):
  Calls prog 64 #[cB b o vp vq vd] w (fF w b z B (lv B M o)):=by
 obtain⟨W,hW,cM,jN,jL,G⟩:=mI w (cB b o vp vq vd) (zo fy (.slice none 0 0) (.slice none 0 0));have hc:=Kv (vq:=vq) (vd:=vd) (h.keep0 cM) hT (hP.keep cM (by simp)) hs (.inl hK);rw[hK] at hc;obtain⟨HC,jo⟩:=hh2 hc (jG jN);have IA:Hid (∀e V,fF W b z B (lv B M o) e V->∃Z U,e= .returned (.agg Z)/\(storeVar 38 (w.heap.size+1:Nat) (.agg Z)).run prog V= .ok () U/\(loadVar 38 (w.heap.size+1:Nat)).run prog U= .ok (.agg Z) U/\fF w b z B (lv B M o) (.returned (.agg Z)) U):=λe V hp=>O6 h.lt cM G jL rfl hp
 have Gm:=l6;clear h hT hP hs cM jN jL G hc;rw[lL] at *;generalize fF w b z B (lv B M o)=Q,fF W b z B (lv B M o)=Q1,cB b o vp vq vd=J at *;go_in;go_wp2_with(with_reducible refine gL 91 jo.out ?_);refine HC.out.mono ?_;intro e V hp;obtain⟨Z,U,rfl,s1,s2,s3⟩:=IA.out e V hp;obtain⟨HS,HL,HF⟩:=hh3 s1 s2 s3;clear s1 s2 s3 hp IA HC hW jo;go_wp2_with(with_reducible refine gS 38 HS.out ?_);exact aI (bA results64 rfl HL.out) rfl HF.out
theorem RM (h:rC w b z B [] T own [] M)(hT:dw M){o:jz}{vp vq vd:Value}{g:Nat}(hP:gN w vp g o.P)(hs:∀s∈o.P,s.size<=9223372036854775807)(hK:o.K=1):
  Calls prog 65 #[cB b o vp vq vd] w (fF w b z B (lv B M o)):=by
 obtain⟨W,hW,cM,jN,jL,G⟩:=mI w (cB b o vp vq vd) (zo fy (.slice none 0 0) (.slice none 0 0));have hc:=Kv (vq:=vq) (vd:=vd) (h.keep0 cM) hT (hP.keep cM (by simp)) hs (.inr hK);rw[hK] at hc;obtain⟨HC,jo⟩:=hh2 hc (jG jN);have IA:Hid (∀e V,fF W b z B (lv B M o) e V->∃Z U,e= .returned (.agg Z)/\(storeVar 38 (w.heap.size+1:Nat) (.agg Z)).run prog V= .ok () U/\(loadVar 38 (w.heap.size+1:Nat)).run prog U= .ok (.agg Z) U/\fF w b z B (lv B M o) (.returned (.agg Z)) U):=λe V hp=>O6 h.lt cM G jL rfl hp
 have Gm:=l6;clear h hT hP hs cM jN jL G hc;rw[lL] at *;generalize fF w b z B (lv B M o)=Q,fF W b z B (lv B M o)=Q1,cB b o vp vq vd=J at *;go_in;go_wp2_with(with_reducible refine gL 91 jo.out ?_);refine HC.out.mono ?_;intro e V hp;obtain⟨Z,U,rfl,s1,s2,s3⟩:=IA.out e V hp;obtain⟨HS,HL,HF⟩:=hh3 s1 s2 s3;clear s1 s2 s3 hp IA HC hW jo;go_wp2_with(with_reducible refine gS 38 HS.out ?_);exact aI (bA results65 rfl HL.out) rfl HF.out
theorem RN (f:Int):aM (Ab f) (.slice none 0 0)= #[.int .i64 f,.int .i64 2,.int .i64 1,.int .i64 0,.int .i64 0,.int .i64 0,.int .i64 0,.int .i64 0,.int .i64 0,.int .i64 0,.int .i64 0,.int .i64 0,.int .i64 0,.int .i64 0,.int .i64 0,.int .i64 0,.int .i64 0,.slice none 0 0]:=rfl
def Laid (w:World) (b gn gl gf:Nat) (d:Int) (w':World):Prop:=
 ∃Y,RH Y E0/\(aZ Y).length=255/\fx w' b gn gl gf (calm Y d)/\ay [b,gn,gl,gf] w w'
theorem aeX{gn gl gf:Nat}{xs:List Int}{d:Int}(h:fx w b gn gl gf (calm xs d))(h0:0<=d)(hd:d<100000000000000000)(hx:xs.length=3128)(hT:kN w){f:Int}(hf:f=1\/f=2):
  Calls prog 21 #[b,f] w λe w'=>e=(0:Int)/\Laid w b gn gl gf (d+3520) w':=by
 obtain⟨HN,HL⟩:=hh2 (Bg (w:=w) (v:= .slice none 0 0) (g:=0) (ws:=[]) ⟨none,0,rfl,aH _,by simp[maxLen],λh=>absurd rfl h⟩) (λwx (hk:ay [] w wx)=>yF (h.keep hk (by simp) (by simp)) hx);have ho:=h.old (by show xs.length≠0;omega)
 -- Aim, the puts, the root, settle
 have ag:Hid (∀U J,w.heap.size<=J->ay [] w U->eK U J J (kU []) []->Calls prog 46 #[(J:Nat),f] U λe w2=>e=(0:Int)/\Hid (∃V,(w.heap.size<=V/\V<w2.heap.size)/\eK w2 J V (kU []) [(1,f),(2,0)]/\ay [] w w2)):=λU J hb hk hs=>by
  refine(Zo hs ⟨hs.raw.lt,hs.raw.lt⟩ (by simp) f (OE hs (yK 1))).mono ?_;rintro e w2 ⟨r,qs,V,rfl,hg,G,z,-,hr⟩;have hz:(az (kU []) []).getD 1 0=0:=yK 1;have hq:r=0/\qs=[(1,f),(2,0)]:=by
   rcases hr with ⟨-,h1,-⟩|⟨h1,-,⟨h2,-⟩|⟨-,h2⟩⟩
   ·exact absurd hf h1
   ·rw[hz] at h2;omega
   ·exact⟨h1,h2⟩
  obtain⟨rfl,rfl⟩:=hq;refine⟨rfl,V,by have :=hk.size;have :=z.size;have :=hs.raw.lt;omega,G,hk.trans z λy hy=> .inr (by simp only[aL,aK,bC,or_self] at hy;omega)⟩
 have Db:Hid (∀U J V ps (i x:Int),Si i=true->ps.length<=10->w.heap.size<=J->(w.heap.size<=V/\V<U.heap.size)->ay [] w U->eK U J V (kU []) ps->Calls prog 47 #[(J:Nat),(i:Int),.int .u64 x] U λe w2=>e= .returned (.tuple #[])/\Hid (∃gI,(w.heap.size<=gI/\gI<w2.heap.size)/\eK w2 J gI (kU []) (ps++[(i,x)])/\ay [] w w2)):=λU J V ps i x hi hp hb hg hk hs=>by
  refine Rr (pz hs (by omega) i x) ?_;rintro w2 ⟨gI,au,G,z⟩;rw[Aj,aB hi] at G;refine⟨rfl,gI,by have :=hk.size;have :=z.size;omega,G,hk.trans z λy hy=> .inr (by simp only[aL,aK,bC] at hy;omega)⟩
 have Ug:Hid (∀U J V,w.heap.size<=J->(w.heap.size<=V/\V<U.heap.size)->ay [] w U->eK U J V (kU []) (zJ f)->Calls prog 48 #[(J:Nat),(0:Int),aM (Ab f) (.slice none 0 0)] U λe w2=>e=(0:Int)/\Hid (∃gI Y,RH Y E0/\(aZ Y).length=255/\ay [] w w2/\Calls prog 28 #[(J:Nat)] w2 λe w3=>∃v,e=(v:Value)/\Hid (Calls prog 49 #[b,v] w3 λe w4=>e=(0:Int)/\Hid (gI=gI/\Laid w b gn gl gf (d+3520) w4)))):=λU J V hb hg hk hs=>by
  have ak:J<U.heap.size/\V<U.heap.size:=⟨hs.raw.lt,hg.2⟩;refine(sB hs (adb hf).st.w64 (λwx hx=>hT.keep (hk.trans hx λy hy=> .inr (by simp only[aL,aK,bC] at hy;omega))) ak.2 (by simp[zJ]) 0 (Ab f) (.slice none 0 0) 0 rfl (bD.nil _ _) (λk hk=>by simp[Ab] at hk) (λh=>absurd rfl h)).mono ?_;rintro e w2 ⟨r,qs,gI,rfl,au,G,z,-,hr⟩;obtain⟨rfl,T,own,EY,po,h8⟩:=acw hf hr;have uC:ay [] w w2:=hk.trans z λy hy=> .inr (by simp only[aL,aK,bC] at hy;omega)
  refine⟨rfl,gI,_,⟨h8,T,own,EY⟩,po,uC,?_⟩;refine(RL G).mono ?_;rintro e w3 ⟨v,g,rfl,aj,av,ah⟩;refine⟨v,rfl,?_⟩;have Lg:=uC.trans' ah;show Calls _ _ _ _ _;refine(RI (h.keep Lg (by simp) (by simp)) h0 hd hx EY.st.len aj (by have :=uC.size;intro hm;simp only[aL,aK,bC] at hm;omega)).mono ?_;rintro e w4 ⟨rfl,h1,h2⟩;exact⟨rfl,rfl,_,⟨h8,T,own,EY⟩,po,h1,(Lg.mono (by simp)).trans' h2⟩
 rw[RN] at Ug;clear h h0 hd hx hT hf ho;generalize Laid w b gn gl gf (d+3520)=Q at *;go_in;go_wp2_with fail;refine HN.out.mono ?_;rintro e U ⟨J,rfl,aa,ae,hk⟩;obtain⟨xC,HA,Qv⟩:=hh3 (HL.out U hk) (ag.out U J aa hk ae) aa;clear hk HL HN ag ae aa;go_wp2_with fail;refine C' xC.out ?_;go_wp2_with fail;refine Rr HA.out λw2 hr=> ?_;obtain⟨V,W,G,z⟩:=hr.out;have HP:=ar (Db.out w2 J V _ 0 7596835243318849792 (by decide) (by simp) Qv.out W z G);clear hr W G z HA xC;go_wp2_with fail;refine Rr HP.out λw3 hr=> ?_;obtain⟨Rl,W,G,z⟩:=hr.out;have mA:=ar (Db.out w3 J Rl _ 2 32 (by decide) (by simp) Qv.out W z G);clear hr W G z HP Db;go_wp2_with fail;refine Rr mA.out λw4 hr=> ?_;obtain⟨ai,W,G,z⟩:=hr.out;have HI:=ar (Ug.out w4 J ai Qv.out W z G);have rH:=dA;rw[Ih] at rH;clear hr W G z mA Ug Qv;go_wp2_with fail;refine Rr HI.out λw5 hr=> ?_;obtain⟨-,-,-,-,-,hw⟩:=hr.out;have ac:=ar hw;clear hr hw HI;go_wp2_with fail;refine ac.out.mono ?_;rintro e w6 ⟨v,rfl,af⟩;clear ac;go_wp2_with fail;refine Rr af.out λw7 hq=> ?_;clear af;go_wp2_with fail;go_ret;exact⟨rfl,hq.out.2⟩
def adf {α:Type} (n:Nat) (P:Program) (gf:Nat) (lb:Array Value) (U:α->Array Value) (Rd:Nat->α->World->Prop) (S Sp:List α->Prop) (N:Nat) (C:List Nat) (w:World):Prop:=
 ∀(l:Nat) (J G:List α->World->Prop) (W:World),ay [] w W->w.heap.size<=l->l<W.heap.size->
  (∀h A z,J h A->ay [] A z->J h z)->(∀h A z,G h A->ay [] A z->G h z)->
  (∀h x A,J h A->h.length<N->Rd l x A->YieldAt Fence.wide (n-1) P l (U x) A λe z=>
   (e=true/\J (h++[x]) z/\ay (l::C) A z)\/(e=false/\G (h++[x]) z))->
  J [] W->
  CallsIn Fence.wide n P gf (#[.func (.yield l) #[] #[]]++lb) W λe V=>(∃v,e=(v:Value))/\((∃xs,S xs/\J xs V)\/(∃h,Sp h/\G h V))
def vN {α:Type} (C:List Nat) (I:List α->World->Prop) (h:Code->List α->World->Prop) (xs:List α) (W:World):Exit->Act->World->Prop
 | .normal,_,W'=>ay C W W'/\I xs W'
 | .ret,_,W'=>ay C W W'/\h .ret xs W'
 | .exit id,_,W'=>ay C W W'/\h (.exit id) xs W'
 | .goto t,_,W'=>ay C W W'/\h (.goto t) xs W'
 | .panic _,_,_=>False
 | .outgrown,_,_=>False
theorem rY (W:World)(l:Nat)(o:Obj):ay [l] W (W.putObj l o):=
 ⟨rfl,rfl,rfl,by simp,λk _ h=>World.putObj_heap_other (by simpa using h)⟩
theorem tQ{α:Type}{g:Operand}{ps:Array Tmp}{assign body:Code}(h1:1<=n){gf:Nat}{lb:Array Value}(hg:a.eval g= .func (.func gf) #[] lb)(eg:∀args w,(callFunc gf args).run P w= .ok (.enter gf args) w)
  {ax:α->Array Value} {Rd:Nat->α->World->Prop} {S Sp:List α->Prop} {N:Nat} {C:List Nat} (az:adf (n-1) P gf lb ax Rd S Sp N C w) (hC:∀k∈C,k<w.heap.size) (aI:∀x,(ax x).size=ps.size)
  (I:List α->World->Prop) (Ix:Code->List α->World->Prop) (hI:∀G A J,I G A->Below w.heap.size A J->I G J) (ae:∀c G A J,Ix c G A->Below w.heap.size A J->Ix c G J) (h0:I [] w)
  (aK:∀l x A J,Rd l x A->ay [l] A J->Rd l x J) (Ax:α->Act->World->Prop) (aA:∀l x a' A J,w.heap.size<=l->(∃r,A.heap[l]? =some (.loop r))->Ax x a' A->ay [l] A J->Ax x a' J)
  (aJ:∀(l:Nat) (x:α) (W:World) (K:Act->World->Prop),Rd l x W->w.heap.size<W.heap.size->(∀a' W',ay [] W W'->Ax x a' W'->K a' W')->
   assign.wpIn (Fence.wide.inRound l) (n-1-1) P (Exit.then K (λ_ _ _=>False)) { tmps:=(ps.zip (ax x)).foldl (λt (p,v)=>t.setIfInBounds p v) a.tmps,defers:=[] } W)
  (aD:∀l x A J,Rd l x A->ay [] A J->Rd l x J)
  (ar:∀(l:Nat) (G:List α) (x:α) (a':Act) (W:World),w.heap.size<l->l<W.heap.size->I G W->G.length<N->Rd l x W->Ax x a' W->body.wpIn (Fence.wide.inRound l) (n-1-1) P (vN C I Ix (G++[x]) W) a' W)
  (ak:∀(D:Nat) (xs:List α) (W:World),w.heap.size<=D->S xs->I xs W->W.heap[D]? =some (.deferred (some []))->Q .normal { a with defers:={ target:= .collected D,args:= #[] }::a.defers } W)
  (aL:∀(D:Nat) (c:Code) (G:List α) (W:World),w.heap.size<=D->Sp G->Ix c G W->W.heap[D]? =some (.deferred (some []))->c.wpIn Fence.wide n P Q { a with defers:={ target:= .collected D,args:= #[] }::a.defers } W):
  (Code.rangeFunc g ps assign body).wpIn Fence.wide n P Q a w:=by
 refine wpIn_rangeFunc λfn aG=> ?_
 let U:LoopState->Option Code->Obj:=λst pe=> .loop { state:=st,pending:=pe,fn,tmps:=a.tmps,params:=ps,assign,body,defers:=w.heap.size }
 have e0:(w.alloc (.deferred (some []))).heap.size=w.heap.size+1:=aX _ _;have ai:∀{A J:World},w.heap.size<=A.heap.size->ay [w.heap.size+1] A J->Below w.heap.size A J:=λhA hk=>hk.below hA λk hk=>by rw[au] at hk;omega
 have ag:∀{A J:World},w.heap.size<=A.heap.size->ay [] A J->Below w.heap.size A J:=λhA hk=>hk.below hA λk hk=>by simp at hk
 obtain⟨W1,af⟩:∃W1,(w.alloc (.deferred (some []))).alloc (U .ready none)=W1:=⟨_,rfl⟩;have r1:W1.heap[w.heap.size+1]? =some (U .ready none):=by rw[<-af,<-e0];exact World.alloc_heap_new _ _
 have d1:W1.heap[w.heap.size]? =some (.deferred (some [])):=by rw[<-af];exact(jI _ _ _ (by rw[e0];omega)).trans (World.alloc_heap_new w _)
 have k1:ay [] w W1:=by rw[<-af];exact((ay.refl [] w).alloc _).alloc _
 have s1:W1.heap.size=w.heap.size+2:=by rw[<-af,aX,e0]
 refine⟨w.heap.size+1,[{ target:= .collected w.heap.size,args:= #[] }],W1,{ target:= .fn (.func gf) lb,args:= #[.func (.yield (w.heap.size+1)) #[] #[]] },W1,gf,#[.func (.yield (w.heap.size+1)) #[] #[]]++lb,W1,by rw[<-af];exact run_enterLoop_outer _ _ _ _ _,?_,λ_ _=>trivial,?_,λ_=>h1,?_⟩
 ·simp only[resolve,hg]
  simp[go_sem]
 ·simp[invoke,go_sem,eg]
 refine(az (w.heap.size+1) (λG A=>I G A/\A.heap[w.heap.size+1]? =some (U .ready none)/\A.heap[w.heap.size]? =some (.deferred (some [])))
  (λG A=>∃c,Ix c G A/\A.heap[w.heap.size+1]? =some (U .done (some c))/\A.heap[w.heap.size]? =some (.deferred (some []))) W1 k1 (by omega) (by omega) ?_ ?_ ?_ ⟨hI _ _ _ h0 (ag (aH _) k1),r1,d1⟩).mono ?_
 ·rintro G A J ⟨i1,i2,i3⟩ hk
  have l2:=(Array.getElem?_eq_some_iff.1 i2).1;exact⟨hI _ _ _ i1 (ag (by omega) hk),(hk.block _ l2 (by simp)).trans i2,(hk.block _ (by omega) (by simp)).trans i3⟩
 ·rintro G A J ⟨c,i1,i2,i3⟩ hk
  have l2:=(Array.getElem?_eq_some_iff.1 i2).1;exact⟨c,ae _ _ _ _ i1 (ag (by omega) hk),(hk.block _ l2 (by simp)).trans i2,(hk.block _ (by omega) (by simp)).trans i3⟩
 ·rintro G x A ⟨i1,i2,i3⟩ hN hr
  have l2:=(Array.getElem?_eq_some_iff.1 i2).1;refine⟨fn,_,assign,body,run_yield i2 (aI x),roundIn_of_wpIn aG (aJ _ x A _ hr (by omega) λa' A2 aa aC=> ?_)⟩;have j2:A2.heap[w.heap.size+1]? =some (U .ready none):=(aa.block _ l2 (by simp)).trans i2;have j3:A2.heap[w.heap.size]? =some (.deferred (some [])):=(aa.block _ (by omega) (by simp)).trans i3;have l3:w.heap.size+1<A2.heap.size:=(Array.getElem?_eq_some_iff.1 j2).1;refine⟨_,run_beginRound j2 rfl,?_⟩;have ac:=rY A2 (w.heap.size+1) (U .busy none);obtain⟨A3,aj⟩:∃A3,A2.putObj (w.heap.size+1) (U .busy none)=A3:=⟨_,rfl⟩;have m2:A3.heap[w.heap.size+1]? =some (U .busy none):=by rw[<-aj];exact World.putObj_heap_same l3
  have m3:A3.heap[w.heap.size]? =some (.deferred (some [])):=by rw[<-aj];exact(World.putObj_heap_other (by omega)).trans j3
  rw[aj] at ac;have l4:w.heap.size+1<A3.heap.size:=(Array.getElem?_eq_some_iff.1 m2).1;show body.wpIn _ _ _ _ a' (A2.putObj (w.heap.size+1) (U .busy none));rw[aj];have aB:I G A3:=hI _ _ _ (hI _ _ _ i1 (ag (by omega) aa)) (ai (by omega) ac);refine wpIn_mono (ar _ G x a' A3 (by omega) l4 aB hN (aK _ _ _ _ (aD _ _ _ _ hr aa) ac) (aA _ _ _ _ _ (by omega) ⟨_,j2⟩ aC ac)) ?_;have ah:∀(z:Option Code) (V:World),ay C A3 V->(Instr.endRound (w.heap.size+1) z).run P V= .ok (.bool z.isNone) (V.putObj (w.heap.size+1) (U (if z.isNone then .ready else .done) z))/\
    Below w.heap.size V (V.putObj (w.heap.size+1) (U (if z.isNone then .ready else .done) z))/\(V.putObj (w.heap.size+1) (U (if z.isNone then .ready else .done) z)).heap[w.heap.size+1]? =some (U (if z.isNone then .ready else .done) z)/\
    (V.putObj (w.heap.size+1) (U (if z.isNone then .ready else .done) z)).heap[w.heap.size]? =some (.deferred (some []))/\ay ((w.heap.size+1)::C) A (V.putObj (w.heap.size+1) (U (if z.isNone then .ready else .done) z)):=λz V av=>by
   have n2:V.heap[w.heap.size+1]? =some (U .busy none):=(av.block _ l4 λhm=>by have :=hC _ hm;omega).trans m2;have n3:V.heap[w.heap.size]? =some (.deferred (some [])):=(av.block _ (by omega) λhm=>by have :=hC _ hm;omega).trans m3;have l5:=(Array.getElem?_eq_some_iff.1 n2).1;have fV:=rY V (w.heap.size+1) (U (if z.isNone then .ready else .done) z);refine⟨run_endRound (P:=P) z n2,ai (by omega) fV,World.putObj_heap_same l5,(World.putObj_heap_other (by omega)).trans n3,?_⟩;have q1:ay ((w.heap.size+1)::C) A A3:=(aa.mono (l':=(w.heap.size+1)::C) (by simp)).trans ac (by simp);have q2:ay ((w.heap.size+1)::C) A V:=q1.trans av λx hx=> .inl (by simp[hx])
   exact q2.trans fV (by simp)
  rintro e a3 V hp;cases e with
  |normal=>
   obtain⟨f1,f2,f3,f4,f5⟩:=ah none V hp.1;exact⟨_,_,f1,.inl ⟨rfl,⟨hI _ _ _ hp.2 f2,f3,f4⟩,f5⟩⟩
  |ret=>
   obtain⟨f1,f2,f3,f4,f5⟩:=ah (some .ret) V hp.1;exact⟨_,_,f1,.inr ⟨rfl,.ret,ae _ _ _ _ hp.2 f2,f3,f4⟩⟩
  |exit id=>
   obtain⟨f1,f2,f3,f4,f5⟩:=ah (some (.exit id)) V hp.1;exact⟨_,_,f1,.inr ⟨rfl,.exit id,ae _ _ _ _ hp.2 f2,f3,f4⟩⟩
  |goto t=>
   obtain⟨f1,f2,f3,f4,f5⟩:=ah (some (.goto t)) V hp.1;exact⟨_,_,f1,.inr ⟨rfl,.goto t,ae _ _ _ _ hp.2 f2,f3,f4⟩⟩
  |panic ch=>exact hp.elim
  |outgrown=>exact hp.elim
 ·rintro e A ⟨⟨v,rfl⟩,h⟩
  rcases h with ⟨xs,hS,i1,i2,i3⟩|⟨G,aF,c,i1,i2,i3⟩
  ·have l2:=(Array.getElem?_eq_some_iff.1 i2).1
   have fV:=rY A (w.heap.size+1) (U .exhausted none);exact⟨none,_,run_endLoop (P:=P) i2 (by simp),ak _ xs _ (aH _) hS (hI _ _ _ i1 (ai (by omega) fV)) ((World.putObj_heap_other (by omega)).trans i3)⟩
  ·have l2:=(Array.getElem?_eq_some_iff.1 i2).1
   have fV:=rY A (w.heap.size+1) (U .exhausted (some c));exact⟨some c,_,run_endLoop (P:=P) i2 (by simp),aL _ c G _ (aH _) aF (ae _ _ _ _ i1 (ai (by omega) fV)) ((World.putObj_heap_other (by omega)).trans i3)⟩
theorem Dx{z:Array Oper}{S:World->Prop}{r:Option Nat}{id:Nat}(W:P.follows .mixedOrders=true)(hq:¬LetsOut Q)(V:Bv z=true)(U:xe .any z z.size z.size=true)(G:∀d v c a w,Q (.panic c) (Act.put a d v) w->Q (.panic c) a w)(J:S w.drew)
  (na:Region.ready .any z (eN z.size z.size)=[]) (h:aU P z S (Q .normal) z.toList a):(Code.region id z true).wpIn { Fence.wide with round:=r } n P Q a w:=by
 refine xV W hq (Bw V) ?_;rw[<-mU];refine oJ (S:=λ_=>S) (F:=z.size) (L:=z.size) _ _ _ ?_ _ J;refine JG (m:=z.size) U (aH _) (aH _) G (E:=λa=>∀w,S w->Q .normal a w) (λa h=> ?_) z.toList 0 a (by simp) (aH _) (λk hk=>by simp) (aU.toB _ _ h);rw[je];exact⟨na,h⟩
section
variable {P:Program} {n:Nat} {r:Option Nat} {ops:Array Oper} {Q:Exit->Act->World->Prop} {rest:List Oper} {o:Oper} {a:Act} {w:World}
theorem pZ (V:Region.wanted o (yielded ops a.tmps)=true)(ty:TypeId)(x:Operand)(G:o.op= .load ty x)(z:Addr)(U:a.eval x= .pointer (some z))(v:Value)
  (J:(loadVar ty z).run P w= .ok v w) (h:wpListIn { Fence.wide with round:=r } n P ops Q rest (a.put o.dst v) w):wpListIn { Fence.wide with round:=r } n P ops Q (o::rest) a w:=by
 unfold wpListIn;rw[aB V];refine vX (λc e=>by rw[G] at e;cases e) ?_;unfold Oper.wp execOp;simp only[G,U,Instr.loadAt,Instr.sureAddr,cr,fQ,cO,J];exact h
theorem jO (W:Region.wanted o (yielded ops a.tmps)=true)(ty:TypeId)(x y:Operand)(G:o.op= .store ty x y)(z:Addr)(V:a.eval x= .pointer (some z))(v:Value)(J:a.eval y=v)(w':World)
  (U:(storeVar ty z v).run P w= .ok () w') (h:wpListIn { Fence.wide with round:=r } n P ops Q rest (a.put o.dst undef) w'):wpListIn { Fence.wide with round:=r } n P ops Q (o::rest) a w:=by
 unfold wpListIn;rw[aB W];refine vX (λc e=>by rw[G] at e;cases e) ?_;unfold Oper.wp execOp;simp only[G,V,J,Instr.storeAt,Instr.sureAddr,cr,fQ,cO,U];exact h
end
end
section
open Go.RowKit Go.Shelf
variable{A w:World}{b gp k n z:Nat}{B:List Int}{T:List (bT×Value)}{own:Nat->List Nat}{M:Nat->Nd}{P:Program}{Q:Exit->Act->World->Prop}{a:Act}
attribute [local go_sem] j5
structure GX where
 i:Nat
 n:bT
 v:Value
def Wk (x:GX):Array Value:= #[.int .i64 (x.i:Int),.agg (aM x.n x.v)]
def lW (x:GX):Nat×bT:=(x.i,x.n)
theorem Kw (T:List (bT×Value)):∀k,(kO T k).length<=k
 |0=>aH _
 |k+1=>by
  have :=Kw T k;unfold kO;rw[aC];split<;>simp<;>omega
def RdG (T:List (bT×Value)) (l:Nat) (x:GX) (A:World):Prop:=
 x.i<32/\x.n=nT T x.i/\x.n.F≠0/\x.n.B.length=13/\∃g,l<g/\bD A x.v g x.n.E
theorem RdG.keep{l:Nat}{x:GX}{z:World}(h:RdG T l x A){m:List Nat}(G:ay m A z)(W:∀k∈m,k<=l):RdG T l x z:=by
 obtain⟨J,h2,h3,U,g,h5,h6⟩:=h;exact⟨J,h2,h3,U,g,h5,h6.keep G λ_ V=>by have :=W _ V;omega⟩
theorem RO (b:Nat)(w:World):Calls prog 138 #[b] w λe w'=>
  e= .returned (.func (.func 168) #[] #[w.heap.size])/\w'=w.alloc (.cells #[b] 49):=by
 go_in;go_wp2_with fail;go_ret;exact⟨rfl,rfl⟩
theorem acC (n l V b gp:Nat)(B:List Int)(ps:List (Int×Int))(T:List (bT×Value))(own:Nat->List Nat)(hn:1<=n)(C:List Nat)(hC:∀k∈C,k≠V/\k≠b/\k≠gp)(J Jx:List GX->World->Prop)
  (hJ:∀z A A',J z A->ay [] A A'->J z A') (hl:l≠V/\l≠b/\l≠gp)
  (hY:∀z x A,J z A->z.length<32->RdG T l x A->YieldAt Fence.wide (n-1) prog l (Wk x) A λe A'=>
   (e=true/\J (z++[x]) A'/\ay (l::C) A A')\/(e=false/\Jx (z++[x]) A'))
  (W:World) (ai:l<W.heap.size) (ax:bh W V #[b] 49) (hs:gU W b gp B ps T own) (h0:J [] W):
  CallsIn Fence.wide n prog 168 #[.func (.yield l) #[] #[],V] W λe W'=>(∃v,e=(v:Value))/\
   ((∃xs:List GX,xs.map lW=kO T 32/\J xs W')\/(∃z:List GX,(z≠[]/\∀x∈z,lW x∈kO T 32)/\Jx z W')):=by
 have rH:=dA;obtain⟨Z0,Dd⟩:∃Z0,aM ck (.slice none 0 0)=Z0:=⟨_,rfl⟩;have Lb:Hid (Z0.size=18):=by show _=_;rw[<-Dd];rfl
 rw[Dd] at rH;clear Dd;obtain⟨HC,EC⟩:=hh2 hC hl;have aj:Hid (([]:List GX).map lW=kO T 0/\J [] W/\gU W b gp B ps T own/\bh W V #[b] 49/\l<W.heap.size):=⟨rfl,h0,hs,ax,ai⟩;clear hC hl h0 hs ax ai;refine callsIn_of_wp func168 rfl trivial ?_ rfl;simp only[ntmps168,bN,cu,cD,Nat.reduceAdd,Nat.reduceSub,fZ,gi,iH,gQ,bQ,ia]
 gi_wp2
 gi_loopw [7] (λi wr=>∃(k:Nat) (z:List GX),k<=32/\i= .int .i64 (k:Int)/\Hid (z.map lW=kO T k/\J z wr/\gU wr b gp B ps T own/\bh wr V #[b] 49/\l<wr.heap.size))
  (λi _=>32-(intOf i).toNat)
 case atStart=>exact⟨0,[],by omega,rfl,aj.out⟩
 case round=>
  clear aj;obtain⟨k,z,hk,rfl,G⟩:=hrel;by_cases ac:k<32
  ·have xD:(k:Int)<32:=by omega
   have c0:wr.cell? V=some (.pointer (some ⟨b,0,none⟩)):=by rw[G.out.2.2.2.1.cell];rfl
   have HG:=ar (G.out.2.2.1.get ac)
   gi_wp2
   refine⟨trivial,callsIn_wide.2 (HG.out.mono ?_)⟩;rintro e w3 ⟨v,g,va,ga,r,rfl,hB,hE,hg,hO,xh,af,hr⟩;obtain⟨w4,p1,p2,p3⟩:=cz (n:=nT T k) (v:=v) (bh.new w3 Z0 75) Lb.out hB hE.one;have tT:=ar p1;have U:ay [] wr w4:=af.trans' (((ay.refl [] w3).alloc _).trans p3 (by intro x hx;rw[au] at hx;omega));obtain⟨qb,aC⟩:=hh2 U (cg p2 hB);have aa:=hJ _ _ _ G.out.2.1 U;have Iw:Hid (gU w4 b gp B ps T own/\bh w4 V #[b] 49/\l<w4.heap.size):=⟨G.out.2.2.1.keep0 U,G.out.2.2.2.1.keep U (by simp),by have :=G.out.2.2.2.2;have :=U.size;omega⟩;have WY:bD w4 v g (nT T k).E:=hE.keep (((ay.refl [w3.heap.size] w3).alloc (.cells Z0 75)).trans' p3) (λh0=>hE.apart (l:=[w3.heap.size]) (λx hx=>by rw[au] at hx;omega) h0);have XX:Hid ((nT T k).F≠0->kO T (k+1)=kO T k++[(k,nT T k)]):=λh=>by show kO T k++_=_;rw[aA h]
   have ae:Hid ((nT T k).F=0->kO T (k+1)=kO T k):=λh=>by show kO T k++_=_;rw[aB h,br]
   by_cases h0:r=0
   ·subst h0
    have hF:(nT T k).F≠0:=by
     rcases hr with ⟨-,h⟩|⟨h,-⟩|⟨h,-⟩
     ·exact h
     ·omega
     ·omega
    have av:z.length<32:=by
     have h1:=cP List.length G.out.1;rw[bY] at h1;have h2:=Kw T k;omega
    obtain⟨fn,tmps,assign,body,hy,hR⟩:=hY z ⟨k,nT T k,v⟩ w4 aa av ⟨ac,rfl,hF,hB,g,by have :=G.out.2.2.2.2;omega,WY⟩;have Gd:Hid ((z++[(⟨k,nT T k,v⟩:GX)]).map lW=kO T (k+1)):=by
     show _=_;rw[XX.out hF,ey,G.out.1];rfl
    have ag:Hid (∀A',ay (l::C) w4 A'->gU A' b gp B ps T own/\bh A' V #[b] 49/\l<A'.heap.size):=λA' hk=>by
     have hc:=HC.out;have ah:=EC.out;refine⟨Iw.out.1.keep hk λq hq=> .inr ?_,Iw.out.2.1.keep hk λhm=> ?_,bS Iw.out.2.2 hk.size⟩
     ·rcases aL.1 hq with rfl|hq
      ·exact⟨ah.2.1,ah.2.2⟩
      ·exact⟨(hc q hq).2.1,(hc q hq).2.2⟩
     ·rcases aL.1 hm with e|hm
      ·exact ah.1 e.symm
      ·exact(hc V hm).1 rfl
    unfold Wk at hy
    dsimp only at hy
    clear hr hF aa WY Iw hE hB hg hO xh af U p1 p2 p3 XX ae G c0 av ac;generalize aM (nT T k) v=ZN at *
    gi_wp2_with (first|((with_reducible show wpListIn _ _ _ _ _ (⟨_,.store 75 (.tmp 4) (.tmp 14),_,_,_,_⟩::_) _ _);refine jO (r:=none) rfl 75 (.tmp 4) (.tmp 14) rfl _ rfl _ rfl _ tT.out ?_)|((with_reducible show wpListIn _ _ _ _ _ (⟨_,.load 75 (.tmp 4),_,_,_,_⟩::_) _ _);refine pZ (r:=none) rfl 75 (.tmp 4) rfl _ rfl _ aC.out ?_))
    refine hR.mono ?_;rintro e W5 (⟨rfl,ak,lh⟩|⟨rfl,az⟩)
    ·have HF:Hid ((z++[(⟨k,nT T k,v⟩:GX)]).map lW=kO T (k+1)/\J (z++[⟨k,nT T k,v⟩]) W5/\gU W5 b gp B ps T own/\bh W5 V #[b] 49/\l<W5.heap.size):=⟨Gd.out,ak,ag.out _ lh⟩
     clear ak lh Gd ag
     gi_wp2
     go_roundw
     case rel=>exact⟨k+1,_,by omega,by go_num,HF.out⟩
     case measure=>simp[intOf];omega
    ·have HF:Hid ((z++[(⟨k,nT T k,v⟩:GX)])≠[]/\∀x∈z++[(⟨k,nT T k,v⟩:GX)],lW x∈kO T 32):=by
      refine⟨by simp,λx hx=> ?_⟩;have h1:lW x∈(z++[(⟨k,nT T k,v⟩:GX)]).map lW:=bH.2 ⟨x,hx,rfl⟩;rw[Gd.out] at h1;obtain⟨a1,a2,a3⟩:=o8.1 h1;exact o8.2 ⟨by omega,a2,a3⟩
     clear Gd ag
     gi_wp2
     refine aI (results_none rfl _ _ _) rfl ?_;exact⟨⟨_,rfl⟩,.inr ⟨_,HF.out,az⟩⟩
   ·have b0:(r==0)=false:=by simpa using h0
    have hF:(nT T k).F=0:=by
     rcases hr with ⟨h,-⟩|⟨-,h,-⟩|⟨-,h,-⟩
     ·exact absurd h h0
     ·exact h
     ·exact h
    have HF:Hid (z.map lW=kO T (k+1)/\J z w4/\gU w4 b gp B ps T own/\bh w4 V #[b] 49/\l<w4.heap.size):=⟨by rw[ae.out hF];exact G.out.1,aa,Iw.out⟩;clear hr hF aa WY Iw hE hB hg hO xh af U p1 p2 p3 h0 XX ae G c0;generalize aM (nT T k) v=ZN at *
    gi_wp2_with ((with_reducible show wpListIn _ _ _ _ _ (⟨_,.store 75 (.tmp 4) (.tmp 14),_,_,_,_⟩::_) _ _);refine jO (r:=none) rfl 75 (.tmp 4) (.tmp 14) rfl _ rfl _ rfl _ tT.out ?_)
    refine⟨λ_ h=>(by cases h),?_⟩
    gi_wp2
    go_roundw
    case rel=>exact⟨k+1,_,by omega,by go_num,HF.out⟩
    case measure=>simp[intOf];omega
  ·obtain rfl:k=32:=by omega
   have HF:=ar (And.intro G.out.1 G.out.2.1);clear G ac hk
   gi_wp2
   go_end0;exact⟨⟨_,rfl⟩,.inl ⟨z,HF.out.1,HF.out.2⟩⟩
theorem Dy (hn:1<=n){w:World}{G b V:Nat}{B:List Int}{ps:List (Int×Int)}{T:List (bT×Value)}{own:Nat->List Nat}(hs:gU w b V B ps T own)(z:bh w G #[b] 49){C:List Nat}(hC:∀k∈C,k≠G/\k≠b/\k≠V):
  adf n prog 168 #[G] Wk (RdG T) (λxs=>xs.map lW=kO T 32) (λh=>h≠[]/\∀x∈h,lW x∈kO T 32) 32 C w:=by
 intro l J Jx W hk hl U hJ _ hY h0;have h1:=z.lt;have h2:=hs.lt;exact acC n l G b V B ps T own hn C hC J Jx hJ ⟨by omega,by omega,by omega⟩ hY W U (z.keep hk (by simp)) (hs.keep0 hk) h0
end
section
open Go.RowKit
variable{A w:World}{b gp k n z:Nat}{B:List Int}{T:List (bT×Value)}{own:Nat->List Nat}{M:Nat->Nd}{P:Program}{Q:Exit->Act->World->Prop}{a:Act}
theorem Wl (G:k<32){b:Int}:b∈o7 T (k:Int)↔∃j,j<(nT T k).E.length/\jm (nT T k).E j=b:=by
 unfold o7;rw[aB,aG];constructor
 ·intro h
  obtain⟨j,z,e⟩:=bW h;rw[bY] at z;rw[ic] at e;exact⟨j,z,by rw[<-e];simp[jm,z]⟩
 ·rintro⟨j,z,e⟩
  refine bH.2 ⟨(nT T k).E[j],bF z,?_⟩;rw[<-e];simp[jm,z]
end
section
open Go.RowKit Go.Shelf
variable{A w:World}{b gp k n z:Nat}{B:List Int}{T:List (bT×Value)}{own:Nat->List Nat}{M:Nat->Nd}{P:Program}{Q:Exit->Act->World->Prop}{a:Act}
attribute [local go_sem] j5
theorem bh.low{z:World}{c:Array Value}{T:Nat}(h:bh A k c T)(G:Below n A z)(J:k<n):bh z k c T:=(G.block k J).trans h
theorem ay.below_trans{l:List Nat}{G:World}(h:ay l w A)(z:Below n A G)(V:w.heap.size<=n):ay l w G:=
 ⟨z.os.trans h.os,z.tape.trans h.tape,z.output.trans h.output,cG h.size z.size,λk J U=>(z.block k (by omega)).trans (h.block k J U)⟩
theorem Ii{ps:List (Int×Int)}(h:gU w b gp B ps T own):
  Calls prog 137 #[b] w λe w'=>e=(dL (dR 32 (lX T))).toArray/\ay [] w w':=by
 have bq:=N9;have rH:=dA;obtain⟨Z0,Dd⟩:∃Z0,aM ck (.slice none 0 0)=Z0:=⟨_,rfl⟩;have Lb:Hid (Z0.size=18):=by show _=_;rw[<-Dd];rfl
 rw[Dd] at rH;clear Dd;have HS:=ar h;clear h;generalize YA:(dL (dR 32 λ_=>0)).toArray=ZC at *;have aj:=ar YA;clear YA;refine(callsIn_wide (n:=5)).1 (callsIn_of_wp_marks func137 rfl trivial (wpIn_wide.2 ?_) rfl);simp only[ntmps137,bN,cu,cD,Nat.reduceAdd,Nat.reduceSub,fZ,gi,iH,gQ,bQ,ia];go_wp2_with fail;refine Rr (RO b _) λw2 U=> ?_;go_wp2_with fail;rw[<-U];have aK:w2.heap.size=w.heap.size+3:=by rw[U];simp
 have Mh:bh w2 (w.heap.size+1) ZC 189 :=by
  have :=(bh.new (w.alloc (.cells ZC 189)) ZC 189).alloc (.cells #[b] 49);rw[aX] at this;rw[U];exact this
 have jL:bh w2 w.heap.size ZC 189 :=by
  rw[U];exact((bh.new w ZC 189).alloc _).alloc _
 have sf:bh w2 (w.heap.size+1+1) #[b] 49 :=by
  have :=bh.new ((w.alloc (.cells ZC 189)).alloc (.cells ZC 189)) #[b] 49;rw[aX,aX] at this;rw[U];exact this
 have ac:ay [] w w2:=by
  rw[U];exact(((ay.refl [] w).alloc _).alloc _).alloc _
 have aU:=HS.out.keep0 ac;have aT:=HS.out.lt;have wW:=Dy (n:=5-1) (by omega) aU sf (C:=[w.heap.size+1]) (λk J=>by rw[au] at J;subst J;omega);have ag:=HS.out.gots.elen;have av:=HS.out.gots.tabS;have ah:=HS.out.gots.tabN;clear U aU sf;refine(wpIn_wide (n:=5)).1 ?_;refine tQ (by omega) (gf:= 168) (lb:= #[.pointer (some ⟨w.heap.size+1+1,0,none⟩)]) rfl (enters_of func168 (by kernel_rfl) rfl) wW (λk J=>by rw[au] at J;subst J;omega) (λ_=>rfl)
  (λG A=>ay [] w A/\bh A (w.heap.size+1) (dL (dR 32 λq=>xy (G.map lW) q)).toArray 189/\bh A w.heap.size ZC 189/\∀q,xy (G.map lW) q<=24*G.length)
  (λ_ _ _=>False)
  (λG A A' h hb=>⟨h.1.below_trans hb (by omega),h.2.1.low hb (by omega),h.2.2.1.low hb (by omega),h.2.2.2⟩)
  (λ_ _ _ _ h _=>h)
  ⟨ac,by have :=Mh;rw[<-aj.out] at this;exact this,jL,λq=>fD _⟩
  (λl x A A' h J=>h.keep J λk J=>by rw[au] at J;omega)
  (λx a' W=>∃g5,bh W g5 (aM x.n x.v) 75/\w2.heap.size<=g5/\a'={ tmps:= #[.pointer (some ⟨b,0,none⟩),undef,.pointer (some ⟨w.heap.size,0,none⟩),.pointer (some ⟨w.heap.size+1,0,none⟩),undef,.pointer (some ⟨g5,0,none⟩),undef,undef,.pointer (some ⟨b,0,none⟩),.func (.func 168) #[] #[(w.heap.size+1+1:Nat)],.int .i64 (x.i:Int),.agg (aM x.n x.v),undef,undef,undef,undef,undef,undef,undef,undef,undef,undef,undef,undef,undef,undef,undef],defers:=[] })
  (λl x a' A A' _ hr h J=>by
   obtain⟨g5,h1,h2,h3⟩:=h;obtain⟨r,hr⟩:=hr;refine⟨g5,h1.keep J λhm=> ?_,h2,h3⟩;rw[au] at hm;subst hm;rw[h1] at hr;cases hr)
  ?assign (λl x A A' h J=>h.keep J (by simp)) ?body ?done ?stop
 case stop=>
  rintro D c G W _ _ h _;exact h.elim
 case assign=>
  rintro l x W K ⟨h1,h2,h3,h4,g,h5,h6⟩ bp hK;obtain⟨w4,p1,p2,p3⟩:=cz (n:=x.n) (v:=x.v) (bh.new W Z0 75) Lb.out h4 h6.one;have tT:=ar p1;have aR:ay [] W w4:=((ay.refl [] W).alloc _).trans p3 (by intro x hx;rw[au] at hx;omega);have HF:=ar (hK _ w4 aR ⟨W.heap.size,p2,by omega,rfl⟩);clear p1 p2 p3 aR hK h1 h2 h3 h4 h5 h6;unfold Wk;generalize aM x.n x.v=ZN at *
  gi_wp2_with ((with_reducible show wpListIn _ _ _ _ _ (⟨_,.store 75 (.tmp 5) (.tmp 11),_,_,_,_⟩::_) _ _);refine jO (r:=some l) rfl 75 (.tmp 5) (.tmp 11) rfl _ rfl _ rfl _ tT.out ?_)
  exact HF.out
 case body=>
  rintro l G x a' W hl bn ⟨kg,Mq,AY,aD⟩ hN ⟨aH,af,bb,bj,g,hg,hE⟩ ⟨g5,rT,aY,rfl⟩;have aW:x.n.E.length<=24:=by rw[af];exact ag x.i
  have Ra:Hid (∀j,j<x.n.E.length->0<=jm x.n.E j/\jm x.n.E j<32):=λj hj=>by
   have hm:=ah (x.i:Int) (jm x.n.E j) ((Wl aH).2 ⟨j,by rw[<-af];exact hj,by rw[af]⟩);exact hm
  have nE:Hid (∀V,ay [w.heap.size+1] W V->bh V (w.heap.size+1) (dL (dR 32 λq=>xy (G.map lW) q+zI x.n.E x.n.E.length q)).toArray 189->vN [w.heap.size+1] (λG A=>ay [] w A/\bh A (w.heap.size+1) (dL (dR 32 λq=>xy (G.map lW) q)).toArray 189/\bh A w.heap.size ZC 189/\∀q,xy (G.map lW) q<=24*G.length) (λ_ _ _=>False) (G++[x]) W .normal { tmps:= #[],defers:=[] } V):=λV J hb=>by
   have e:∀q,xy ((G++[x]).map lW) q=xy (G.map lW) q+zI x.n.E x.n.E.length q:=λq=>by
    rw[ey,En];rfl
   refine⟨J,kg.trans J (by intro y hy;rw[au] at hy;omega),?_,AY.keep J (by simp),λq=> ?_⟩
   ·rw[tD λq _=>e q]
    exact hb
   ·have h1:=aD q
    have h2:=S7 x.n.E x.n.E.length q;rw[e,aC,jZ];omega
  obtain⟨an,cn,hv,bv,Ur,ax⟩:=hE.open;have aP:W.cell? ⟨g5,17,none⟩=some (.slice an x.n.E.length cn):=by rw[rT.cell,<-hv];exact(gG _ bj).f5
  have ae:=ar ax;have aI:Hid (ay [w.heap.size+1] W W/\bh W (w.heap.size+1) (dL (dR 32 λq=>xy (G.map lW) q+zI x.n.E 0 q)).toArray 189):=⟨ay.refl _ _,by
   rw[tD (f':=λq=>xy (G.map lW) q) λq _=>by rw[Vu,dC]];exact Mq⟩
  have aN:=ar aD;have bw:Hid (g<W.heap.size\/x.n.E.length=0):=by
   by_cases h0:x.n.E.length=0
   ·exact .inr h0
   ·exact .inl (ax 0 (by omega)).1
  have bk:Hid (l<g/\w.heap.size+2<l):=⟨hg,by omega⟩;have bo:=Em;have aF:Hid (G.length<32):=hN;clear kg Mq AY aD hN hE hv ax aH af bb hg ag av ah rT aY Mh jL ac aK aT HS;generalize aM x.n x.v=ZN,xy (G.map lW)=fP at *;obtain⟨mE,ak⟩:∃mE,x.n.E.length=mE:=⟨_,rfl⟩;have aZ:=ar ak;rw[ak] at aP ae Ra nE aW;clear ak;generalize x.n.E=E at *
  gi_wp2
  gi_loopw [15] (λi wr=>∃j:Nat,j<=mE/\i= .int .i64 (j:Int)/\Hid (ay [w.heap.size+1] W wr/\bh wr (w.heap.size+1) (dL (dR 32 λq=>fP q+zI E j q)).toArray 189))
   (λi _=>mE-(intOf i).toNat)
  case atStart=>exact⟨0,by omega,rfl,aI.out⟩
  case round=>
   clear aI aP;obtain⟨j,hj,rfl,HI⟩:=hrel;by_cases aa:j<mE
   ·have Qe:(j:Int)<(mE:Int):=by omega
    have Ci:(0:Int)<=(j:Int):=by omega
    obtain⟨aV,off,rfl,d1,d2⟩:=ae.out j aa;have az:=HI.out.1.block g aV (by rw[au];have :=bk.out;omega);have bc:Hid ((loadVar 99 ⟨g,off+j*2,none⟩).run prog wr= .ok (.agg #[.string (eX E j),(jm E j:Int)]) wr):=
     AG ((aO (w:=W) (a:=⟨g,off+j*2,none⟩) az).trans d1) ((aO (w:=W) (a:=⟨g,off+j*2+1,none⟩) az).trans d2)
    obtain⟨ba,bt⟩:=Ra.out j aa;have aS:=λq=>Vv (E:=E) (j:=j) (by rw[aZ.out];exact aa) q
    have aL:=λq=>S7 E j q
    generalize jm E j=yi at *;obtain⟨y,rfl⟩:=cA ba;have bg:y<32:=by omega
    obtain⟨w6,p1,p2,p3⟩:=BL (eX E j) (y:Int) (bh.new wr #[.string ⟨#[]⟩,(0:Int)] 99) rfl;have jv:ay [] wr w6:=((ay.refl [] wr).alloc _).trans p3 (by intro x hx;rw[au] at hx;omega);have c1:w6.cell? ⟨wr.heap.size,1,none⟩=some (.int .i64 (y:Int)):=by rw[p2.cell];rfl
    have tS:=HI.out.2.keep jv (by simp);have c2:=LK tS (j:=y) bg;obtain⟨z,hz⟩:∃z,fP y+zI E j y=z:=⟨_,rfl⟩;rw[hz] at c2;have br:z<=1000:=by have :=aN.out y;have :=aL y;have :=aF.out;omega
    have PD:Hid (∀x:Int,x=((z+1:Nat):Int)->bh (w6.setCell ⟨w.heap.size+1,y,none⟩ (.int .i64 x)) (w.heap.size+1) (dL (dR 32 λq=>fP q+zI E (j+1) q)).toArray 189):=λx hx=>N8 tS y (λq hq=>by
     rw[aS q];by_cases e:q=y
     ·subst e;rw[aB rfl,aB rfl];omega
     ·rw[aA e,aA];omega) (by rw[hx,hz])
    have f2:=tS.frozen y;have nK:Hid (ay [w.heap.size+1] W w6):=HI.out.1.trans' (jv.mono (by simp));have GA:=ar p1;have bu:(0:Int)<=(y:Int):=by omega
    clear HI az d1 d2 aS aL hz p1 p2 p3 jv tS nE Ra ae aN aF;generalize eX E j=sj at *
    gi_wp2_with (first|((with_reducible show wpListIn _ _ _ _ _ (⟨_,.load 99 (.tmp 17),_,_,_,_⟩::_) _ _);refine pZ (r:=some l) rfl 99 (.tmp 17) rfl _ rfl _ bc.out ?_)|((with_reducible show wpListIn _ _ _ _ _ (⟨_,.store 99 (.tmp 7) (.tmp 18),_,_,_,_⟩::_) _ _);refine jO (r:=some l) rfl 99 (.tmp 7) (.tmp 18) rfl _ rfl _ rfl _ GA.out ?_))
    go_roundw
    case rel=>exact⟨j+1,by omega,by go_num,nK.out.setCell (.inl (by simp)) _,PD.out _ (by go_num)⟩
    case measure=>simp[intOf];omega
   ·obtain rfl:j=mE:=by omega
    have HF:=ar (nE.out _ HI.out.1 HI.out.2);clear HI nE Ra ae hj aa
    gi_wp2
    exact HF.out
 case done=>
  rintro D xs W hD aJ ⟨kg,Mq,AY,-⟩ JS;rw[aJ,tD (λq _=>Y4 av 32 q)] at Mq;have aQ:Hid ((loadVar 189 (w.heap.size+1:Nat)).run prog W= .ok (.agg (dL (dR 32 (lX T))).toArray) W):=Ob Mq;obtain⟨wS,p1,p2,p3⟩:=Kf (f':=lX T) (show bh W w.heap.size (dL (dR 32 λ_=>0)).toArray 189 by rw[aj.out];exact AY);have Ub:=ar p1;have bl:Hid (wS.heap[D]? =some (.deferred (some []))):=(p3.block D (Array.getElem?_eq_some_iff.1 JS).1 (by rw[au];omega)).trans JS;have qV:Hid (∀V,ay [D] wS V->(loadVar 189 w.heap.size).run prog V= .ok (.agg (dL (dR 32 (lX T))).toArray) V/\ay [] w V):=λV J=>⟨Ob (p2.keep J (by rw[au];omega)),(kg.trans p3 (by intro y hy;rw[au] at hy;omega)).trans J (by intro y hy;rw[au] at hy;omega)⟩
  clear kg Mq AY JS aJ p1 p2 p3 Mh jL ac aK aT HS aj ag av ah;obtain⟨ZR,ai⟩:∃ZR,(dL (dR 32 (lX T))).toArray=ZR:=⟨_,rfl⟩;rw[ai] at aQ Ub qV;have bf:=ar ai;clear ai;go_wp2_with(with_reducible first|refine gL 189 aQ.out ?_|refine gS 189 Ub.out ?_);refine mD [D] wS (by simp) (λD' aG=>by rw[au] at aG;subst aG;exact bl.out) λV J=> ?_
  obtain⟨h1,h2⟩:=qV.out V J;exact⟨_,bA results137 rfl h1,by rw[<-bf.out],h2⟩
end
end Go.Proofs.YtimcfdnbpkiniaaGreatDoor

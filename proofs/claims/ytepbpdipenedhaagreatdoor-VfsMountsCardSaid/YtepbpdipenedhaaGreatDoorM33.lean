/- Lemmas. -/
import Derived.Test.YtepbpdipenedhaaGreatDoorM32
import Derived.Deep.WholeRow
set_option maxHeartbeats 4000000
set_option maxRecDepth 100000
namespace Go.Proofs.YtepbpdipenedhaaGreatDoor
open Go.Proofs.Tryz
open Go.RowKit
variable{M:Nat->Nd}{w:World}{b g gp k:Nat}{B X l:List Int}{T:List (bT×Value)}{own:Nat->List Nat}{n:bT}
def KD (B:List Int) (M M':Nat->Nd) (d t:Nat) (th:Bool) (r:Int) (qs:List (Int×Int)):Prop:=
 (r=7/\((th=false/\d≠t/\24<=(M t).E.length)\/(aZ B).length<40))\/(r=0/\¬(th=false/\d≠t/\24<=(M t).E.length)/\z7 B qs M')
theorem TB (z:dw M){d:Nat}{nm:ByteArray}(J:0<=bg (M d).E nm):(ja (M d).E nm).length+1=(M d).E.length:=by
 rcases yE z d nm with G|⟨-,A,B,-,-,h⟩
 ·omega
 ·exact h
theorem aan (z:dw M)(hF:nj M){d t i:Nat}{nm nm':ByteArray}(V:bg (M d).E nm=(i:Int))(th:Bool)(G:th=true->0<=bg (M t).E nm')(W:th=false->bg (M t).E nm'<0)
  (h:24<(wZ (oN M d (ja (M d).E nm) t).E nm' (i:Int)).length):th=false/\d≠t/\24<=(M t).E.length:=by
 have U:=hF.len t;unfold wZ at h;rw[vN,pd] at h;cases th with
 |true=>
  have J:=TB z (G rfl)
  exfalso
  split at h
  ·next e=>
   subst e;rw[Kv] at h;have :=vM (ja (M t).E nm') nm;omega
  ·omega
 |false=>
  refine⟨rfl,?_⟩;split at h
  ·next e=>
   subst e;have J:=TB z (d:=t) (nm:=nm) (by omega);have :=vM (ja (M t).E nm) nm';omega
  ·next e=>
   have :=vM (M t).E nm';exact⟨cY e,by omega⟩
theorem aao (G:dw M){d t i:Nat}{nm nm':ByteArray}(h:(wZ (oN M d (ja (M d).E nm) t).E nm' (i:Int)).length<=24):¬((bg (M t).E nm'<0)/\d≠t/\24<=(M t).E.length):=by
 rintro⟨J,z,U⟩;rw[pd,aA (cY z),Ia G J,vN] at h;omega
theorem acz{M':Nat->Nd}(h:rB w b gp B [] T own [] M)(hT:dw M)(o:jB)(vp vq vd:Value){d t i:Nat}{nm nm':ByteArray}(hf:bg (M d).E nm=(i:Int))(ht:(M t).K=2)(hg:iy (bl nm')=true)(U:Bool){th:Bool}{jx:Int}
  (Wv:th=false->bg (M t).E nm'<0/\M'=Oh M d t i nm nm') (Oo:th=true->∃j:Nat,jx=(j:Int)/\bg (M t).E nm'=(j:Int)/\j≠t/\j≠d/\M'=Oh (Cg M t nm') d t i nm nm'):
  Calls prog 116 #[cA b o vp vq vd,.agg (cG d nm U (i:Int)),cG t nm' th jx] w (cO w b gp B [] 2200 (KD B M M' d t th)):=by
 obtain⟨W,hW,cJ,jR,sw,af,aR⟩:∃W,((w.alloc (.cells (cA b o vp vq vd) 79)).alloc (.cells (cG d nm U (i:Int)) 165)).alloc (.cells (cG t nm' th jx) 165)=W/\ay [] w W/\bh W w.heap.size (cA b o vp vq vd) 79/\bh W (w.heap.size+1) (cG d nm U (i:Int)) 165/\bh W (w.heap.size+1+1) (cG t nm' th jx) 165/\W.heap.size=w.heap.size+3:=by
  refine⟨_,rfl,(((ay.refl _ _).alloc _).alloc _).alloc _,((bh.new w _ _).alloc _).alloc _,(bh.new2 w _ _ _ _).alloc _,?_,by rw[aX,aX,aX]⟩;have :=bh.new2 (w.alloc (.cells (cA b o vp vq vd) 79)) (cG d nm U (i:Int)) 165 (cG t nm' th jx) 165;rwa[aX] at this
 have ae:=h.lt;have hF:=(h.nd.snd hT).few;have BX:=jb hT (d:=d) (nm:=nm) (by omega);rw[hf,aG] at BX;have ah:=(hT.dir BX.1).1;have jG:=BX.2.2.2;have aQ:∀q1,AL (az B []) [] M d nm 0 q1->True:=λ_ _=>trivial
 have hrel:∀{kX:Nat} {w1 w2:World},kX=gp\/(W.heap.size<=kX/\kX<w1.heap.size)->ay [b,gp] W w1->ay [b,kX] w1 w2->ay [b,gp] W w2:=λaU aa G=>aa.trans G λy hy=>by
  simp only[aL,aK,bC] at hy ⊢;omega
 -- the three steps
 have aH:Hid (Calls prog 153 #[cA b o vp vq vd,.agg (cG d nm U (i:Int))] W λe w1=>e=(0:Int)/\ay [b,gp] W w1/\
   Calls prog 118 #[cA b o vp vq vd,cG t nm' th jx,(i:Int)] w1 λe w2=>ay [b,gp] W w2/\((e=(7:Int)/\cO w b gp B [] 2200 (KD B M M' d t th) (.returned (7:Int)) w2)\/
    (e=(0:Int)/\((th=false/\cO w b gp B [] 2200 (KD B M M' d t th) (.returned (0:Int)) w2)\/
     (th=true/\Calls prog 154 #[cA b o vp vq vd,jx] w2 λe w3=>e=(0:Int)/\cO w b gp B [] 2200 (KD B M M' d t th) (.returned (0:Int)) w3))))):=by
  refine(OS (h.keep0 cJ) (by simp) o vp vq vd ah nm U (i:Int)).mono ?_;rintro e w1 ⟨r,q1,kX,rfl,h1,h2,h3,h4,rfl,aI,pq⟩;refine⟨rfl,h3,?_⟩;obtain⟨T1,ba,g1,-⟩:=id aI;have aJ:=(h.keep0 cJ).go h2 h3 h1 g1;have aO:(oN M d (ja (M d).E nm) t).K=2:=by rw[(yA _ _ _ _).1];exact ht
  refine(H9 aJ (by rw[bQ];omega) o vp vq vd (d:=t) aO hg th jx (i:=(i:Int)) (by omega)).mono ?_;rintro e w2 ⟨r,q2,lS,rfl,e1,e2,e3,e4,e5⟩;have rh:=hrel h1 h3 e3;have aT:=h3.size;have aW:=e3.size;refine⟨rh,?_⟩;have ag:=e5;rw[bz] at ag;rcases ag with ⟨rfl,bc,z⟩|⟨rfl,aD,Ya⟩
  ·left
   refine⟨rfl,7,q1++q2,lS,rfl,by omega,by rw[<-aV];exact e2,(cJ.mono (by simp)).trans' rh,by rw[aC];omega,.inl ⟨rfl,?_⟩⟩;rcases z with z|z
   ·exact .inl (aan hT hF hf th (λh=>by obtain⟨j,-,hj,-⟩:=Oo h;omega) (λh=>(Wv h).1) z)
   ·right
    have :(aZ B).length<=(aZ (az B q1)).length:=pq;have aY:(aZ (az B q1)).length<11:=z;omega
  ·right
   refine⟨rfl,?_⟩;have aj:=aI.trans Ya;cases th with
   |false=>
    left
    refine⟨rfl,0,q1++q2,lS,rfl,by omega,by rw[<-aV];exact e2,(cJ.mono (by simp)).trans' rh,by rw[aC];omega,.inr ⟨rfl,λhh=>aao hT aD ⟨(Wv rfl).1,hh.2⟩,?_⟩⟩;rw[(Wv rfl).2,<-aeJ hT (Wv rfl).1];exact aj.lands (by omega)
   |true=>
    right
    refine⟨rfl,?_⟩;obtain⟨j,rfl,aB,ai,aF,rfl⟩:=Oo rfl;have Jn:=jb hT (d:=t) (nm:=nm') (by omega);rw[aB,aG] at Jn;obtain⟨T2,bb,g2,-⟩:=id Ya;have aP:=aJ.go (qs:=q2) e2 e3 e1 (by rw[bQ];exact g2);have ak:oN (oN M d (ja (M d).E nm)) t (wZ (oN M d (ja (M d).E nm) t).E nm' (i:Int)) j=M j:=by rw[pZ,aA ai,pZ,aA aF]
    refine(Kt aP (by rw[bQ,aC];omega) o vp vq vd (i:=j) (by rw[ak];exact Jn.2.1) (by rw[ak];exact(OT hT hF Jn.2.1).1)).mono ?_;rintro e w3 ⟨r,q3,Rm,rfl,f1,f2,f3,f4,rfl,aN,-⟩;have aS:=f3.size;have au:=aN;rw[bz,bQ,acn (by rw[aB,aG]) ai aF] at au;have ax:=aj.trans (q:=q3) (by rw[bz];exact au);refine⟨rfl,0,q1++q2++q3,Rm,rfl,by omega,by rw[<-aV,<-aV];exact f2,((cJ.mono (by simp)).trans' rh).trans f3 (λy hy=> ?_),by rw[aC,aC];omega,.inr ⟨rfl,(λhh=>by simp at hh),ax.lands (by omega)⟩⟩;simp only[aL,aK,bC] at hy ⊢;omega
 have lY:Hid (∀V,ay [b,gp] W V->(loadVar 79 w.heap.size).run prog V= .ok (.agg (cA b o vp vq vd)) V):=λV hk=>jJ (jR.keep hk (eD ae (by omega)))
 have EX:Hid (∀V,ay [b,gp] W V->(loadVar 165 (w.heap.size+1+1:Nat)).run prog V= .ok (.agg (cG t nm' th jx)) V):=λV hk=>jr (af.keep hk (eD ae (by omega)))
 have av:=ar (jr sw);have ac:Hid (∀V,ay [b,gp] W V->V.cell? ⟨w.heap.size+1,3,none⟩=some (.int .i64 (i:Int))/\V.cell? ⟨w.heap.size+1+1,2,none⟩=some (.bool th)/\V.cell? ⟨w.heap.size+1+1,3,none⟩=some (.int .i64 jx)):=λV hk=>by
  have h1:=sw.keep hk (eD ae (by omega));have h2:=af.keep hk (eD ae (by omega));exact⟨by rw[h1.cell];rfl,by rw[h2.cell];rfl,by rw[h2.cell];rfl⟩
 have ju:=ar (lY.out W (ay.refl _ _));clear h hT cJ jR sw af aR ae BX ah jG hF aQ hrel hf ht hg Oo Wv;generalize cO w b gp B [] 2200 (KD B M M' d t th)=Q,cA b o vp vq vd=J,cG d nm U (i:Int)=Zs,cG t nm' th jx=Zt at *;generalize (i:Int)=ii at *;go_in;go_wp2_with(with_reducible first|refine gL 79 ju.out ?_|refine gL 165 av.out ?_);refine Rr aH.out ?_;rintro w1 ⟨aa,aM⟩;obtain⟨HE,Ws,RT⟩:=hh3 aM (lY.out w1 aa) (EX.out w1 aa);obtain⟨c1,-,-⟩:=ac.out w1 aa;clear aa aM aH ju av hW EX;go_wp2_with(with_reducible first|refine gL 79 Ws.out ?_|refine gL 165 RT.out ?_);refine HE.out.mono ?_;rintro e w2 ⟨G,⟨rfl,hq⟩|⟨rfl,⟨rfl,hq⟩|⟨rfl,hq⟩⟩⟩
 ·have HF:=ar hq
  clear hq G HE ac Ws RT lY c1;go_wp2_with fail
  first|exact HF.out|(go_ret;exact HF.out)
 ·have HF:=ar hq
  obtain⟨-,c2,-⟩:=ac.out w2 G;clear hq G HE ac Ws RT lY c1;go_wp2_with fail
  first|exact HF.out|(go_ret;exact HF.out)
 ·have HU:=ar hq
  obtain⟨-,c2,c3⟩:=ac.out w2 G;have vV:=ar (lY.out w2 G);clear hq G HE ac Ws RT lY c1;go_wp2_with(with_reducible refine gL 79 vV.out ?_);refine Rr HU.out λw3 hq=> ?_;have HF:=ar hq;clear hq HU;go_wp2_with fail
  first|exact HF.out|(go_ret;exact HF.out)
section
variable {M:Nat->Nd} {o:jB}
theorem acA (G:o.K=7)(z:o.Q≠[])(h:kJ M o.P=0)(J:(bq M o.Q).2≠0):(kF M o).2=cV (bq M o.Q).2:=by
 rw[vT G z h,aB J]
theorem aap (z:o.K=7)(G:o.Q≠[])(h:kJ M o.P=0)(U:(bq M o.Q).2=0)(J:bg (M (bq M o.Q).1).E (aS o.Q)=bg (M (bq M o.P).1).E (aS o.P)):kF M o=(M,fy):=by
 rw[vT z G h,aA,aB J]
theorem aaq (z:o.K=7)(G:o.Q≠[])(h:kJ M o.P=0)(V:(bq M o.Q).2=0)(J:bg (M (bq M o.Q).1).E (aS o.Q)≠bg (M (bq M o.P).1).E (aS o.P))(U:kS M (bg (M (bq M o.P).1).E (aS o.P)).toNat (bq M o.Q).1):(kF M o).2=cV 11:=by
 rw[vT z G h,aA,aA J,aB U]
theorem aar (J:o.K=7)(U:o.Q≠[])(G:kJ M o.P=0)(he:(bq M o.Q).2=0)(V:bg (M (bq M o.Q).1).E (aS o.Q)≠bg (M (bq M o.P).1).E (aS o.P))(W:¬kS M (bg (M (bq M o.P).1).E (aS o.P)).toNat (bq M o.Q).1)(z:0<=bg (M (bq M o.Q).1).E (aS o.Q))
  (h:uA M (bg (M (bq M o.P).1).E (aS o.P)).toNat (bg (M (bq M o.Q).1).E (aS o.Q)).toNat≠0):(kF M o).2=cV (uA M (bg (M (bq M o.P).1).E (aS o.P)).toNat (bg (M (bq M o.Q).1).E (aS o.Q)).toNat):=by
 rw[vT J U G,aA,aA V,aA W,aB z,aB h]
theorem acB (z:o.K=7)(G:o.Q≠[])(h:kJ M o.P=0)(V:(bq M o.Q).2=0)(J:bg (M (bq M o.Q).1).E (aS o.Q)≠bg (M (bq M o.P).1).E (aS o.P))(U:¬kS M (bg (M (bq M o.P).1).E (aS o.P)).toNat (bq M o.Q).1)(W:bg (M (bq M o.Q).1).E (aS o.Q)<0):
  kF M o=if (bq M o.P).1≠(bq M o.Q).1/\24<=(M (bq M o.Q).1).E.length then (M,cV 7) else
   (Oh M (bq M o.P).1 (bq M o.Q).1 (bg (M (bq M o.P).1).E (aS o.P)).toNat (aS o.P) (aS o.Q),fy):=by
 rw[vT z G h,aA,aA J,aA U,aA]
theorem acC (G:o.K=7)(J:o.Q≠[])(z:kJ M o.P=0)(W:(bq M o.Q).2=0)(U:bg (M (bq M o.Q).1).E (aS o.Q)≠bg (M (bq M o.P).1).E (aS o.P))(V:¬kS M (bg (M (bq M o.P).1).E (aS o.P)).toNat (bq M o.Q).1)(h:0<=bg (M (bq M o.Q).1).E (aS o.Q))
  (hv:uA M (bg (M (bq M o.P).1).E (aS o.P)).toNat (bg (M (bq M o.Q).1).E (aS o.Q)).toNat=0):kF M o=(Oh (Cg M (bq M o.Q).1 (aS o.Q)) (bq M o.P).1 (bq M o.Q).1 (bg (M (bq M o.P).1).E (aS o.P)).toNat (aS o.P) (aS o.Q),fy):=by
 rw[vT G J z,aA,aA U,aA V,aB h,aA]
theorem acD {B:List Int}{M':Nat->Nd}{d t:Nat}{th:Bool}{r:Int}{qs:List (Int×Int)}(hK:o.K=7)(z:kF M o=if th=false/\d≠t/\24<=(M t).E.length then (M,cV 7) else (M',fy))(h:KD B M M' d t th r qs):lu B M o { fy with E:=r } qs:=by
 have G:Dk o.K=true:=by rw[hK];rfl
 rcases h with ⟨rfl,U⟩|⟨rfl,W,V⟩
 ·by_cases J:th=false/\d≠t/\24<=(M t).E.length
  ·rw[aB J] at z
   exact .inr (.inl ⟨by show(7:Int)≠0;omega,by rw[z]⟩)
  ·rw[aA J] at z
   exact .inl ⟨rfl,G,.inl (by rw[z];rfl),.inl (U.resolve_left J)⟩
 ·rw[aA W] at z
  exact .inr (.inr ⟨rfl,by rw[z];rfl,.inl (by rw[z];rfl),by rw[z];exact V⟩)
end
def yM (w:World) (b z:Nat) (B:List Int) (R:mM->List (Int×Int)->Prop) (e:Ending) (G:World):Prop:=
 ∃r h,e=(r:Int)/\(storeVar 34 (w.heap.size+1:Nat) (.agg #[(r:Int),(0:Int),(0:Int),(0:Int),(0:Int),(),()])).run prog G= .ok () h/\(loadVar 34 (w.heap.size+1:Nat)).run prog h= .ok (.agg #[(r:Int),(0:Int),(0:Int),(0:Int),(0:Int),(),()]) h/\fE w b z B R (.returned (.agg #[(r:Int),(0:Int),(0:Int),(0:Int),(0:Int),(),()])) h
theorem Ww (h:rB w b gp B [] T own [] M)(hT:dw M){o:jB}{vp vq vd:Value}{g g2:Nat}(hP:gN w vp g o.P)(hs:∀s∈o.P,s.size<=9223372036854775807)(hQ:gN w vq g2 o.Q)(bt:∀s∈o.Q,s.size<=9223372036854775807)(hK:o.K=7):
  Calls prog 60 #[cA b o vp vq vd] w (fE w b gp B (lu B M o)):=by
 obtain⟨W,hW,cJ,jR,jP,aU⟩:=mH w (cA b o vp vq vd) (zI fy (.slice none 0 0) (.slice none 0 0));have A1:=ar (Ib (h.keep0 cJ) hT o vp vq vd (hP.keep cJ (by simp)) hs);have xB:Hid (∀wx,ay [] W wx->Calls prog 113 #[cA b o vp vq vd,vq] wx (Em wx M o.Q)):=λwx hk=>Di (h.keep0 (cJ.trans' hk)) hT o vp vq vd (hQ.keep (cJ.trans' hk) (by simp)) bt
 have oh:=ar (xd h hT cJ jR jP rfl aU);have az:=h.lt;obtain⟨pa,pc,rfl,bu,aZ,-⟩:=hQ.open;have c1:W.cell? ⟨w.heap.size,2,none⟩=some vp:=by rw[jR.cell];rfl
 have c2:W.cell? ⟨w.heap.size,3,none⟩=some (.slice pa o.Q.length pc):=by rw[jR.cell];rfl
 have qd:Hid (∀wx,ay [] W wx->wx.cell? w.heap.size=some (.pointer (some ⟨b,0,none⟩))/\wx.cell? ⟨w.heap.size,3,none⟩=some (.slice pa o.Q.length pc)):=λwx hk=>by
  have G:=jR.keep hk (by simp);exact⟨by rw[G.cell];rfl,by rw[G.cell];rfl⟩
 have aK:Hid (o.Q=[]->(kF M o).2=cV 1):=acm hK;have ub:Hid (o.Q≠[]->kJ M o.P≠0->(kF M o).2=cV (kJ M o.P)):=λhq hn=>ZX hK hq hn
 -- behind both spots
 have ou:Hid (kJ M o.P=0->(nT T (bg (M (bq M o.P).1).E (aS o.P)).toNat).B.length=13/\(nT T (bg (M (bq M o.P).1).E (aS o.P)).toNat).K=(M (bg (M (bq M o.P).1).E (aS o.P)).toNat).K/\0<=bg (M (bq M o.P).1).E (aS o.P)):=λhn=>⟨(h.nd.store (jb hT (qK hn).2).2.1).len,h.nd.kind _,(qK hn).2⟩
 have rO:Hid (o.Q≠[]->kJ M o.P=0->(bq M o.Q).2≠0->(kF M o).2=cV (bq M o.Q).2):=acA hK;have qZ:Hid (o.Q≠[]->kJ M o.P=0->(bq M o.Q).2=0->bg (M (bq M o.Q).1).E (aS o.Q)=bg (M (bq M o.P).1).E (aS o.P)->∀U,ay [] W U->vS (w.heap.size+1) #[(0:Int),(0:Int),(0:Int),(0:Int),(0:Int),(),()] (fE w b gp B (lu B M o)) U):=λhq hn he ah U hk=>by
  obtain⟨wy,s1,s2,s3,s4⟩:=yK (r:=fy) jP rfl hk (by simp) rfl rfl rfl;have hd:=aap hK hq hn he ah;exact⟨wy,s1,s2,fE.none h ((cJ.trans' hk).trans s4 (by intro y hy;rw[au] at hy;omega)) s3 (.inr (.inr ⟨rfl,by rw[hd];rfl,.inl (by rw[hd]),by rw[hd];exact h.nd.stay⟩))⟩
 have aH:Hid (kJ M o.P=0->∀wx,ay [] W wx->Calls prog 114 #[b,(bg (M (bq M o.P).1).E (aS o.P):Int),((bq M o.Q).1:Int)] wx (dt wx (kS M (bg (M (bq M o.P).1).E (aS o.P)).toNat (bq M o.Q).1))):=λhn wx hk=>by
  have BX:=jb hT (qK hn).2;have G:=(h.keep0 (cJ.trans' hk)).shT.below (bg (M (bq M o.P).1).E (aS o.P)) ((bq M o.Q).1:Int);have h2:Reach T (bg (M (bq M o.P).1).E (aS o.P)) ((bq M o.Q).1:Int)=kS M (bg (M (bq M o.P).1).E (aS o.P)).toNat (bq M o.Q).1:=propext (by
   have :=RS h.nd.abs h.nd.st.gots.tabN (BO h.nd.st.gots) (bg (M (bq M o.P).1).E (aS o.P)).toNat (bq M o.Q).1;rwa[BX.2.2.1] at this)
  rwa[h2] at G
 have xq:Hid (o.Q≠[]->kJ M o.P=0->(bq M o.Q).2=0->bg (M (bq M o.Q).1).E (aS o.Q)≠bg (M (bq M o.P).1).E (aS o.P)->kS M (bg (M (bq M o.P).1).E (aS o.P)).toNat (bq M o.Q).1->(kF M o).2=cV 11):=aaq hK
 -- whether what is there yields, and the move
 have ae:Hid (o.Q≠[]->kJ M o.P=0->(bq M o.Q).2=0->bg (M (bq M o.Q).1).E (aS o.Q)≠bg (M (bq M o.P).1).E (aS o.P)->¬kS M (bg (M (bq M o.P).1).E (aS o.P)).toNat (bq M o.Q).1->∀th jx,((th=false/\bg (M (bq M o.Q).1).E (aS o.Q)<0/\jx=0)\/(th=true/\0<=bg (M (bq M o.Q).1).E (aS o.Q)/\jx=bg (M (bq M o.Q).1).E (aS o.Q)))->∀wx,ay [] W wx->
   Calls prog 115 #[cA b o vp (.slice pa o.Q.length pc) vd,cG (bq M o.Q).1 (aS o.Q) th jx,.int .i64 (M (bg (M (bq M o.P).1).E (aS o.P)).toNat).K] wx λe U=>∃y,e=(y:Int)/\ay [] wx U/\
    ((y≠0/\(kF M o).2=cV y)\/(y=0/\Calls prog 116 #[cA b o vp (.slice pa o.Q.length pc) vd,cG (bq M o.P).1 (aS o.P) true (bg (M (bq M o.P).1).E (aS o.P)),cG (bq M o.Q).1 (aS o.Q) th jx] U (yM w b gp B (lu B M o))))):=λhq hn he ah hc th jx Oo wx hk=>by
  obtain⟨n1,n2⟩:=qK hn;have BX:=jb hT n2;have bc:=pV (M:=M) he;have xI:(M (bg (M (bq M o.P).1).E (aS o.P)).toNat).K=1\/(M (bg (M (bq M o.P).1).E (aS o.P)).toNat).K=2:=by
   rcases hT.kind (bg (M (bq M o.P).1).E (aS o.P)).toNat with G|G|G
   ·exact absurd (by rw[G];rfl) BX.2.1
   ·exact .inl G.1
   ·exact .inr G.1
  -- the move itself
  have bo:∀{M':Nat->Nd},(th=false->bg (M (bq M o.Q).1).E (aS o.Q)<0/\M'=Oh M (bq M o.P).1 (bq M o.Q).1 (bg (M (bq M o.P).1).E (aS o.P)).toNat (aS o.P) (aS o.Q))->(th=true->∃j:Nat,jx=(j:Int)/\bg (M (bq M o.Q).1).E (aS o.Q)=(j:Int)/\j≠(bq M o.Q).1/\j≠(bq M o.P).1/\M'=Oh (Cg M (bq M o.Q).1 (aS o.Q)) (bq M o.P).1 (bq M o.Q).1 (bg (M (bq M o.P).1).E (aS o.P)).toNat (aS o.P) (aS o.Q))->
    (kF M o=if th=false/\(bq M o.P).1≠(bq M o.Q).1/\24<=(M (bq M o.Q).1).E.length then (M,cV 7) else (M',fy))->∀U,ay [] wx U->Calls prog 116 #[cA b o vp (.slice pa o.Q.length pc) vd,cG (bq M o.P).1 (aS o.P) true (bg (M (bq M o.P).1).E (aS o.P)),cG (bq M o.Q).1 (aS o.Q) th jx] U (yM w b gp B (lu B M o)):=λa1 a2 hd U z=>by
   have bD:=cJ.trans' (hk.trans' z);have :=acz (h.keep0 bD) hT o vp (.slice pa o.Q.length pc) vd (d:=(bq M o.P).1) (t:=(bq M o.Q).1) (i:=(bg (M (bq M o.P).1).E (aS o.P)).toNat) (nm:=aS o.P) (nm':=aS o.Q) BX.2.2.1.symm bc.1 bc.2.1 true (th:=th) (jx:=jx) a1 a2;rw[BX.2.2.1] at this;refine this.mono ?_;rintro e w2 ⟨r,qs,kX,rfl,G,h2,h3,h4,h5⟩;have kp:ay [b,gp] W w2:=((hk.trans' z).mono (by simp)).trans' h3;obtain⟨wy,s1,s2,s3,s4⟩:=lO jP rfl kp (eD az (by omega)) r;have bG:=(hk.trans' z).size;exact⟨r,wy,rfl,s1,s2,fE.some az cJ (by omega) (Rq:=λr qs=>lu B M o { fy with E:=r } qs) (m:=2200) ⟨r,qs,kX,rfl,by omega,h2,kp,h4,acD hK hd h5⟩ (by omega) s4 s3 λqs hq=>hq⟩
  rcases Oo with ⟨rfl,bj,rfl⟩|⟨rfl,aR,rfl⟩
  ·refine(Wt (w:=wx) (cA b o vp (.slice pa o.Q.length pc) vd) (bq M o.Q).1 (aS o.Q) 0 _).mono ?_
   rintro e U ⟨rfl,z⟩;refine⟨0,rfl,z,.inr ⟨rfl,bo (λ_=>⟨bj,rfl⟩) (λh=>by simp at h) ?_ U z⟩⟩;rw[acB hK hq hn he ah hc bj];by_cases av:(bq M o.P).1≠(bq M o.Q).1/\24<=(M (bq M o.Q).1).E.length
   ·rw[aB av,aB ⟨rfl,av⟩]
   ·rw[aA av,aA (λh=>av h.2)]
  ·have Jn:=jb hT aR
   have bw:(M (bg (M (bq M o.Q).1).E (aS o.Q)).toNat).K=1\/(M (bg (M (bq M o.Q).1).E (aS o.Q)).toNat).K=2:=by
    rcases hT.kind (bg (M (bq M o.Q).1).E (aS o.Q)).toNat with G|G|G
    ·exact absurd (by rw[G];rfl) Jn.2.1
    ·exact .inl G.1
    ·exact .inr G.1
   have hy:=Wu (h.keep0 (cJ.trans' hk)) o vp (.slice pa o.Q.length pc) vd (bq M o.Q).1 (aS o.Q) (i:=(bg (M (bq M o.P).1).E (aS o.P)).toNat) (j:=(bg (M (bq M o.Q).1).E (aS o.Q)).toNat) Jn.2.1 xI bw;rw[Jn.2.2.1] at hy;refine Rr hy λU z=> ?_;refine⟨_,rfl,z,?_⟩;by_cases hv:uA M (bg (M (bq M o.P).1).E (aS o.P)).toNat (bg (M (bq M o.Q).1).E (aS o.Q)).toNat=0
   ·refine .inr ⟨hv,bo (λh=>by simp at h) (λ_=>⟨_,Jn.2.2.1.symm,Jn.2.2.1.symm,cY (hT.notSelf Jn.1),λe=> ?_,rfl⟩) ?_ U z⟩
    ·have aQ:uA M (bg (M (bq M o.P).1).E (aS o.P)).toNat (bg (M (bq M o.Q).1).E (aS o.Q)).toNat=if (M (bg (M (bq M o.P).1).E (aS o.P)).toNat).K=1/\(M (bg (M (bq M o.Q).1).E (aS o.Q)).toNat).K=2 then 5 else if (M (bg (M (bq M o.P).1).E (aS o.P)).toNat).K=2/\(M (bg (M (bq M o.Q).1).E (aS o.Q)).toNat).K=1 then 4 else if (M (bg (M (bq M o.Q).1).E (aS o.Q)).toNat).K=2/\(M (bg (M (bq M o.Q).1).E (aS o.Q)).toNat).E≠[] then 6 else 0:=rfl
     rw[hv,e] at aQ;have aY:=(hT.dir BX.1).1;have bz:(M (bq M o.P).1).E≠[]:=λh0=>by
      obtain⟨x,hx,-⟩:=BX.1;rw[h0] at hx;simp at hx
     rcases xI with G|G
     ·rw[aB ⟨G,aY⟩] at aQ;omega
     ·rw[aA (λh=>by omega),aA (λh=>by omega),aB ⟨aY,bz⟩] at aQ;omega
    ·rw[acC hK hq hn he ah hc aR hv,aA (λh=>by simp at h)]
   ·exact .inl ⟨hv,aar hK hq hn he ah hc aR hv⟩
 have Gj:=l6;have bH:=pj;have rG:=dz;obtain⟨ju,lU⟩:=hh2 (oh.out.load W (ay.refl _ _)) aU;clear h hT hP hs hQ bt cJ jR jP aU hK az;have e0:cG 0 ⟨#[]⟩ false 0= #[.int .i64 0,.string ⟨#[]⟩,.bool false,.int .i64 0]:=rfl;rcases dY o.Q.length with h0|h0
 ·have aJ:o.Q=[]:=List.length_eq_zero_iff.1 h0
  obtain⟨wy,s1,s2,s3⟩:=oh.out.err 1 (by omega) (aK.out aJ) W (ay.refl _ _);obtain⟨HS,HL,HF⟩:=hh3 s1 s2 s3;rw[h0] at c2;clear s1 s2 s3 oh A1 xB aK ub rO xq ou qZ aH ae qd ju lU bu aZ aJ h0 e0;rw[lN] at *;generalize fE w b gp B (lu B M o)=Q,cA b o vp _ vd=J at *;go_in;go_wp2_with(with_reducible refine gS 34 HS.out ?_);exact aI (bA results60 rfl HL.out) rfl HF.out
 ·have V:o.Q≠[]:=λe=>by rw[e] at h0;simp at h0
  obtain⟨ub,rO,xq,qZ,ae⟩:=hh5 (ub.out V) (rO.out V) (xq.out V) (qZ.out V) (ae.out V);have bl:((o.Q.length:Int)==0)=false:=by rw[cP];omega
  obtain⟨jV,mY⟩:=hh2 oh.out.err oh.out.load;clear oh aK V h0 bu aZ;unfold RB at A1;unfold yM at ae;unfold Em at xB;rw[lN] at *;rw[e0] at A1 xB;clear e0;generalize fE w b gp B (lu B M o)=Q,o.Q.length=m at *;generalize hJ:cA b o vp (.slice pa m pc) vd=J,kJ M o.P=ne,kF M o=DM,bB:bg (M (bq M o.P).1).E (aS o.P)=f,bp:aM cg (.slice none 0 0)=Z0 at *;have jt:=ar bp;clear hJ bp bB;go_in;go_wp2_with(with_reducible refine gL 79 ju.out ?_);refine A1.out.mono ?_;rintro e U ⟨z,⟨V,rfl⟩|⟨rfl,v,g,rfl,hE,hg⟩⟩
  ·obtain⟨w2,w3,p1,p2,-,-,p5,-⟩:=sK U (S0:= #[.int .i64 0,.string ⟨#[]⟩,.bool false,.int .i64 0]) (Z0:=Z0) rfl (by rw[<-jt.out];rfl) 0 ⟨#[]⟩ false 0 (n:=cg) (v:= .slice none 0 0) rfl rfl
   obtain⟨wy,s1,s2,s3⟩:=jV.out ne V (ub.out V) w3 (z.trans' p5);rw[jt.out] at p2;have b1:(ne != 0)=true:=by simpa using V
   obtain⟨jz,py,HS,HL,HF⟩:=hh5 p1 p2 s1 s2 s3;clear hW p1 p2 p5 z s1 s2 s3 V A1 xB ub rO xq ou qZ aH ae qd jV mY ju lU jt c1 c2;unfold cG at jz;go_wp2_with(with_reducible first|refine gS 165 jz.out ?_|refine gS 111 py.out ?_|refine gS 34 HS.out ?_);exact aI (bA results60 rfl HL.out) rfl HF.out
  ·obtain⟨aN,aL,bJ⟩:=ou.out rfl
   obtain⟨Ep,PK,aF,aC,aG⟩:=hh5 (rO.out rfl) (xq.out rfl) (qZ.out rfl) (ae.out rfl) (aH.out rfl);clear rO xq qZ ae aH;generalize hn:nT T f.toNat=n at *;obtain⟨w2,w3,p1,p2,p3,p4,p5,p6⟩:=sK U (S0:= #[.int .i64 0,.string ⟨#[]⟩,.bool false,.int .i64 0]) (Z0:=Z0) rfl (by rw[<-jt.out];rfl) (bq M o.P).1 (aS o.P) true f (n:=n) (v:=v) aN hE.one;have kp:=z.trans' p5;have bK:w.heap.size+2<=U.heap.size:=by have :=z.size;have :=lU.out;omega
   obtain⟨jz,py,aD,yL⟩:=hh4 p1 p2 (xB.out w3 kp) (mY.out w3 kp);obtain⟨-,c3⟩:=qd.out w3 kp;have qI:Hid (bh w3 U.heap.size (cG (bq M o.P).1 (aS o.P) true f) 165/\bh w3 (U.heap.size+1) (aM n v) 111/\w3.heap.size≥U.heap.size+2):=⟨p3,p4,p6⟩;have nL:=ar kp;clear hW p1 p2 p3 p4 p5 p6 z kp hE hg A1 ub ou ju c1 c2 xB hn;generalize W6:aM n v=Zn,ag:cG (bq M o.P).1 (aS o.P) true f=Zf,bq M o.Q=R2 at *;generalize bg (M R2.1).E (aS o.Q)=f2 at *;obtain⟨t,e2⟩:=R2
   dsimp only at *
   go_wp2_with(with_reducible first|refine gS 165 jz.out ?_|refine gS 111 py.out ?_|refine gL 79 yL.out ?_);refine aD.out.mono ?_;rintro e w4 ⟨af,hh⟩;rcases hh with ⟨he,rfl⟩|⟨rfl,th,jx,rfl,Oo⟩
   ·obtain⟨w5,q1,q2,q3⟩:=iU (d:=0) (nm:=⟨#[]⟩) (th:=false) (i:=0) (bh.new w4 #[(0:Int),.string ⟨#[]⟩,false,(0:Int)] 165) rfl
    have rF:ay [] w4 w5:=((ay.refl [] w4).alloc _).trans q3 (by intro x hx;rw[au] at hx;omega);obtain⟨wy,s1,s2,s3⟩:=jV.out e2 he (Ep.out he) w5 (nL.out.trans' (af.trans' rF));have b1:(e2 != 0)=true:=by simpa using he
    obtain⟨rz,HS,HL,HF⟩:=hh4 q1 s1 s2 s3;clear q1 q2 q3 af rF s1 s2 s3 he aD Ep PK aF aG aC qd jV mY lU jt yL qI nL jz py c3;unfold cG at rz;go_wp2_with(with_reducible first|refine gS 165 rz.out ?_|refine gS 34 HS.out ?_);exact aI (bA results60 rfl HL.out) rfl HF.out
   ·obtain⟨w5,q1,q2,q3⟩:=iU (d:=t) (nm:=aS o.Q) (th:=th) (i:=jx) (bh.new w4 #[(0:Int),.string ⟨#[]⟩,false,(0:Int)] 165) rfl
    have rF:ay [] w4 w5:=((ay.refl [] w4).alloc _).trans q3 (by intro x hx;rw[au] at hx;omega);have ua:=af.trans' rF;have Jo:=nL.out.trans' ua;have ax:=qI.out.1.keep ua (by simp);have ak:=qI.out.2.1.keep ua (by simp);have d1:w5.cell? ⟨U.heap.size,3,none⟩=some (.int .i64 f):=by rw[ax.cell,<-ag];rfl
    have d2:w5.cell? ⟨w4.heap.size,2,none⟩=some (.bool th):=by rw[q2.cell];rfl
    have d3:w5.cell? ⟨w4.heap.size,3,none⟩=some (.int .i64 jx):=by rw[q2.cell];rfl
    have rz:=ar q1;by_cases aa:f2=f
    ·have bv:th=true/\jx=f:=by
      rcases Oo with ⟨-,az,-⟩|⟨G,-,h2⟩
      ·omega
      ·exact⟨G,by omega⟩
     obtain⟨rfl,rfl⟩:=bv;obtain⟨wy,s1,s2,s3⟩:=aF.out (by first|trivial|rfl) aa w5 Jo;obtain⟨HS,HL,HF⟩:=hh3 s1 s2 s3;clear q1 q2 q3 af rF ua Jo ax ak s1 s2 s3 aa Oo aD Ep PK aF aG aC qd jV mY lU jt yL qI nL jz py c3 ag W6 aL;generalize cG t (aS o.Q) true jx=Zt at *;go_wp2_with(with_reducible first|refine gS 165 rz.out ?_|refine gS 34 HS.out ?_);exact aI (bA results60 rfl HL.out) rfl HF.out
    ·have bE:th=false\/(th=true/\(jx==f)=false):=by
      rcases Oo with ⟨G,-,-⟩|⟨G,-,h2⟩
      ·exact .inl G
      ·exact .inr ⟨G,by rw[cP];omega⟩
     have d4:w5.cell? w4.heap.size=some (.int .i64 (t:Int)):=by rw[q2.cell];rfl
     obtain⟨d5,-⟩:=qd.out w5 Jo;obtain⟨Ur,bf,ba,qR,br⟩:=hh5 (aG.out w5 Jo) (aC.out (by first|trivial|rfl) aa) (PK.out (by first|trivial|rfl) aa) Jo Oo;have DX:Hid (bh w5 U.heap.size Zf 165/\bh w5 (U.heap.size+1) Zn 111/\bh w5 w4.heap.size (cG t (aS o.Q) th jx) 165):=⟨ax,ak,q2⟩;clear q1 q2 q3 af rF ua Jo ax ak aa Oo aD Ep PK aF aG aC lU jt yL qI nL jz py c3;have HW:Hid (∀rb:Bool,(rb=true↔kS M f.toNat t)->∀w6,ay [] w5 w6->(rb=true->vS (w.heap.size+1) #[(11:Int),(0:Int),(0:Int),(0:Int),(0:Int),(),()] Q w6)):=λrb ac w6 jW G=>jV.out 11 (by omega) (ba.out (ac.1 G)) w6 (qR.out.trans' jW)
     have aW:∀(Zt:Array Value),cG t (aS o.Q) th jx=Zt->∀rb w6,(rb=true↔kS M f.toNat t)->ay [] w5 w6->rb=false->
       (loadVar 79 w.heap.size).run prog w6= .ok (.agg J) w6/\(loadVar 165 w4.heap.size).run prog w6= .ok (.agg Zt) w6/\w6.cell? ⟨U.heap.size+1,1,none⟩=some (.int .i64 n.K)/\
       Calls prog 115 #[J,.agg Zt,n.K] w6 λe w7=>∃y,e=(y:Int)/\
        ((y≠0/\vS (w.heap.size+1) #[(y:Int),(0:Int),(0:Int),(0:Int),(0:Int),(),()] Q w7)\/
        (y=0/\(loadVar 79 w.heap.size).run prog w7= .ok (.agg J) w7/\(loadVar 165 U.heap.size).run prog w7= .ok (.agg Zf) w7/\(loadVar 165 w4.heap.size).run prog w7= .ok (.agg Zt) w7/\Calls prog 116 #[J,Zf,.agg Zt] w7 λe w2=>∃r wy,e=(r:Int)/\(storeVar 34 (w.heap.size+1:Nat) (.agg #[(r:Int),(0:Int),(0:Int),(0:Int),(0:Int),(),()])).run prog w2= .ok () wy/\(loadVar 34 (w.heap.size+1:Nat)).run prog wy= .ok (.agg #[(r:Int),(0:Int),(0:Int),(0:Int),(0:Int),(),()]) wy/\Q (.returned (.agg #[(r:Int),(0:Int),(0:Int),(0:Int),(0:Int),(),()])) wy)):=λZt aj rb w6 ac jW hf=>by
      have bn:=DX.out.2.2.keep jW (by simp);have ak:=DX.out.2.1.keep jW (by simp);refine⟨mY.out w6 (qR.out.trans' jW),by rw[<-aj];exact jr bn,by rw[ak.cell,<-W6];exact(gG v aN).f1,?_⟩;have hy:=bf.out (λhc=>by rw[ac.2 hc] at hf;cases hf) th jx br.out w6 (qR.out.trans' jW);rw[aj,<-aL] at hy;refine hy.mono ?_;rintro e w7 ⟨y,rfl,yl,⟨ai,hd⟩|⟨rfl,hm⟩⟩
      ·exact⟨y,rfl,.inl ⟨ai,jV.out y ai hd w7 (qR.out.trans' (jW.trans' yl))⟩⟩
      ·refine⟨0,rfl,.inr ⟨rfl,mY.out w7 (qR.out.trans' (jW.trans' yl)),?_,by rw[<-aj];exact jr (bn.keep yl (by simp)),?_⟩⟩
       ·have :=jr (d:=(bq M o.P).1) (nm:=aS o.P) (th:=true) (i:=f) (by rw[ag];exact(DX.out.1.keep jW (by simp)).keep yl (by simp))
        rwa[ag] at this
       ·exact hm
     generalize aj:cG t (aS o.Q) th jx=Zt at *;have aT:=ar (aW Zt rfl);clear aW br DX bf ba jV mY qd qR W6 ag aL aN aj;generalize bC:kS M f.toNat t=bF at *;clear bC;generalize (t:Int)=ti at *;rcases bE with rfl|⟨rfl,bI⟩
     all_goals
      go_wp2_with(with_reducible refine gS 165 rz.out ?_);refine Ur.out.mono ?_;rintro e w6 ⟨rb,rfl,ac,jW⟩;cases rb with
      |true=>
       obtain⟨wy,s1,s2,s3⟩:=HW.out true ac w6 jW rfl;obtain⟨HS,HL,HF⟩:=hh3 s1 s2 s3;clear s1 s2 s3 ac jW HW aT Ur rz d1 d2 d3 d4 d5;go_wp2_with(with_reducible refine gS 34 HS.out ?_);exact aI (bA results60 rfl HL.out) rfl HF.out
      |false=>
       obtain⟨k1,k2,k3,k4⟩:=aT.out false w6 ac jW rfl;obtain⟨Dv,aP,aO⟩:=hh3 k1 k2 k4;clear k1 k2 k4 ac jW HW aT Ur rz d1 d2 d3 d4 d5;go_wp2_with(with_reducible first|refine gL 79 Dv.out ?_|refine gL 165 aP.out ?_);refine aO.out.mono ?_;rintro e w7 ⟨y,rfl,⟨ai,wy,s1,s2,s3⟩|⟨rfl,m1,m2,m3,m4⟩⟩
       ·have HS:=ar s1
        obtain⟨HL,HF⟩:=hh2 s2 s3;have b1:(y != 0)=true:=by simpa using ai
        clear s1 s2 s3 ai Dv aP aO k3;go_wp2_with(with_reducible refine gS 34 HS.out ?_);exact aI (bA results60 rfl HL.out) rfl HF.out
       ·have bk:=ar m1
        obtain⟨aX,bb,aV⟩:=hh3 m2 m3 m4;clear m1 m2 m3 m4 Dv aP aO k3;go_wp2_with(with_reducible first|refine gL 79 bk.out ?_|refine gL 165 aX.out ?_|refine gL 165 bb.out ?_);refine aV.out.mono ?_;rintro e w8 ⟨r,wy,rfl,s1,s2,s3⟩;obtain⟨HS,HL,HF⟩:=hh3 s1 s2 s3;clear s1 s2 s3 bk aX bb aV;go_wp2_with(with_reducible refine gS 34 HS.out ?_);exact aI (bA results60 rfl HL.out) rfl HF.out
theorem KE (G:dw M)(hF:nj M){j:Nat}(h:(M j).K≠0):1<=(M j).L/\(M j).L<=768:=by
 have U:=G.rng h;have J:=G.links j U;have V:=Tp hF j 32;rcases G.kind j with z|z|z
 ·rw[z] at h;exact absurd rfl h
 ·have :=J.1 z.1;omega
 ·have :=J.2 z.1;omega
theorem aat (h:rB w b gp B [] T own [] M)(hT:dw M){o:jB}{vp vq vd:Value}{g g2:Nat}(hP:gN w vp g o.P)(hs:∀s∈o.P,s.size<=9223372036854775807)(hQ:gN w vq g2 o.Q)(aW:∀s∈o.Q,s.size<=9223372036854775807)(hK:o.K=8):
  Calls prog 61 #[cA b o vp vq vd] w (fE w b gp B (lu B M o)):=by
 obtain⟨W,hW,cJ,jR,jP,av⟩:=mH w (cA b o vp vq vd) (zI fy (.slice none 0 0) (.slice none 0 0));have qT:=ar (zt (vq:=vq) (vd:=vd) (h.keep0 cJ) hT (hP.keep cJ (by simp)) hs);have ac:Hid (∀z,ay [] W z->Calls prog 117 #[cA b o vp vq vd,vq] z (RA z M o.Q)):=λz U=>Ku (h.keep0 (cJ.trans' U)) hT o vp vq vd (hQ.keep (cJ.trans' U) (by simp)) aW
 have oh:=ar (xd h hT cJ jR jP rfl av);have aa:=h.lt;obtain⟨lU,AV⟩:=hh2 av aa;have qd:Hid (∀z,ay [] W z->z.cell? w.heap.size=some (.pointer (some ⟨b,0,none⟩))/\z.cell? ⟨w.heap.size,3,none⟩=some vq):=λz U=>by
  have h1:=jR.keep U (by simp);exact⟨by rw[h1.cell];rfl,by rw[h1.cell];rfl⟩
 have lY:Hid (∀z,ay [b,gp] W z->(loadVar 79 w.heap.size).run prog z= .ok (.agg (cA b o vp vq vd)) z):=λz U=>jJ (jR.keep U (eD aa (by omega)))
 have ub:Hid ((cZ M o.P).2≠0->(kF M o).2=cV (cZ M o.P).2):=V9 hK;have rO:Hid ((cZ M o.P).2=0->qE M o.Q≠0->(kF M o).2=cV (qE M o.Q)):=RD hK;have ou:Hid ((cZ M o.P).2=0->(nT T (cZ M o.P).1).B.length=13/\(nT T (cZ M o.P).1).L=(M (cZ M o.P).1).L/\1<=(M (cZ M o.P).1).L/\(M (cZ M o.P).1).L<=768):=λhe=>by
  obtain⟨h1,h2,h3⟩:=pY he;rw[h3];have U:=(nW hT h1).1;exact⟨(h.nd.store U).len,h.nd.links _,KE hT (h.nd.snd hT).few U⟩
 have LU:Hid ((cZ M o.P).2=0->qE M o.Q=0->∀z v g,ay [] W z->bD z v g (nT T (cZ M o.P).1).E->W.heap.size<=g->Calls prog 49 #[b,((cZ M o.P).1:Int),.agg (aM { nT T (cZ M o.P).1 with L:=(M (cZ M o.P).1).L+1 } v)] z λe G=>e=(0:Int)/\ay [b,gp] W G/\ay [b,gp] z G/\
   Calls prog 118 #[cA b o vp vq vd,cG (bq M o.Q).1 (aS o.Q) false 0,((cZ M o.P).1:Int)] G (yM w b gp B (lu B M o))):=λhe hv z v g U hE hg=>by
  obtain⟨h1,h2,h3⟩:=pY he;obtain⟨g1,g2,g3⟩:=zr hv;have bg:=nW hT h1;rw[h3] at hE ⊢;generalize hi:(cM M o.P).1=i at *;have xI:=bg.1;have aQ:=h.nd.store xI;have UM:=KE hT (h.nd.snd hT).few xI;have hp:=pV (M:=M) g2;have bb:(bq M o.Q).1≠i:=λe=>by have :=hp.1;rw[e] at this;omega
  refine((h.keep0 cJ).put (by simp) i (n:={ nT T i with L:=(M i).L+1 }) (R:=λr qs=>r=0/\Goes (az B []) qs [] (nv M i { M i with L:=(M i).L+1 }) 100/\(aZ (az B [])).length=(aZ (az (az B []) qs)).length) aQ.len (show ∀k,k<(nT T i).E.length->(eX (nT T i).E k).size<=9223372036854775807 from yr aQ.right) (λr qs hp=>h.nd.links' xI (by omega) hp) U hE hg).mono ?_;rintro e G ⟨⟨r,q1,kX,rfl,e1,e2,e3,e4,rfl,aT,pq⟩,zV⟩;refine⟨rfl,e3,zV,?_⟩;obtain⟨T1,bn,t1,-⟩:=id aT;have bj:=(h.keep0 cJ).go e2 e3 e1 t1;have jG:=h.nd.rng xI;refine(H9 bj (by rw[bQ];omega) o vp vq vd (d:=(bq M o.Q).1) (by rw[dI _ _ bb];exact hp.1) hp.2.1 false 0 (i:=(i:Int)) (by omega)).mono ?_;rintro e w3 ⟨x,q2,lS,rfl,f1,f2,f3,f4,f5⟩;have aH:ay [b,gp] W w3:=e3.trans f3 λy hy=>by
   simp only[aL,aK,bC] at hy ⊢;omega
  obtain⟨wy,s1,s2,s3,s4⟩:=lO jP rfl aH (eD aa (by omega)) x;have aJ:=e3.size;have aD:=f3.size;refine⟨x,wy,rfl,s1,s2,fE.some aa cJ (by omega) (Rq:=λ_ q=>lu B M o { fy with E:=x } q) (m:=1400) ⟨x,q1++q2,lS,rfl,by omega,by rw[<-aV];exact f2,aH,by rw[aC];omega,?_⟩ (by omega) s4 s3 λ_ hq=>hq⟩;refine Wb hT hK he hv hi aT pq.symm ?_;have aB:=f5;rw[bz] at aB;exact aB
 have Gj:=l6;have bk:=pj;have rG:=dz;obtain⟨ju,jV⟩:=hh2 (oh.out.load W (ay.refl _ _)) oh.out.err;clear h hT hP hs hQ aW cJ jR jP av hK aa oh;have e0:cG 0 ⟨#[]⟩ false 0= #[.int .i64 0,.string ⟨#[]⟩,.bool false,.int .i64 0]:=rfl;unfold AR at qT;unfold RA at ac;unfold yM at LU;rw[lN] at *;rw[e0] at ac;clear e0;generalize fE w b gp B (lu B M o)=Q,hJ:cA b o vp vq vd=J,qE M o.Q=ve,kF M o=DM,aR:aM cg (.slice none 0 0)=Z0,aY:cG (bq M o.Q).1 (aS o.Q) false 0=Zs at *;obtain⟨xB,jt⟩:=hh2 aY aR;clear hJ aR aY;generalize cZ M o.P=F at *;obtain⟨x,ee⟩:=F
 dsimp only at *
 go_in;go_wp2_with(with_reducible refine gL 79 ju.out ?_);refine qT.out.mono ?_;rintro e V ⟨ae,⟨he,rfl⟩|⟨rfl,v,g,rfl,hE,hg⟩⟩
 ·obtain⟨G,q1,q2,q3⟩:=cu (n:=cg) (v:= .slice none 0 0) (bh.new V Z0 111) (by rw[<-jt.out];rfl) rfl rfl
  have eV:ay [] V G:=((ay.refl _ _).alloc _).trans q3 (by intro x hx;rw[au] at hx;omega);obtain⟨wy,s1,s2,s3⟩:=jV.out ee he (ub.out he) G (ae.trans' eV);rw[jt.out] at q1;obtain⟨jz,HS,HL,HF⟩:=hh4 q1 s1 s2 s3;have b1:(ee != 0)=true:=by simpa using he
  clear hW q1 q2 q3 ae eV s1 s2 s3 he jV ub rO ou LU qT ac qd lY ju lU AV jt xB;go_wp2_with(with_reducible first|refine gS 111 jz.out ?_|refine gS 34 HS.out ?_);exact aI (bA results61 rfl HL.out) rfl HF.out
 ·obtain⟨aj,ak,Cr,aA⟩:=ou.out rfl
  obtain⟨Ep,ah⟩:=hh2 (rO.out rfl) (LU.out rfl);clear rO LU ub ou;generalize nT T x=n,(M x).L=l0,(x:Int)=xi at *;obtain⟨l1,aG⟩:∃l1,l0+1=l1:=⟨_,rfl⟩;have bc:IntKind.i64.wrap l1=l1:=by rw[cz];omega
  rw[aG] at ah;obtain⟨G,q1,q2,q3⟩:=cu (n:=n) (v:=v) (bh.new V Z0 111) (by rw[<-jt.out];rfl) aj hE.one;have eV:ay [] V G:=((ay.refl _ _).alloc _).trans q3 (by intro x hx;rw[au] at hx;omega);have kp:=ae.trans' eV;have bl:w.heap.size+2<=V.heap.size:=by have :=ae.size;have :=lU.out;omega
  obtain⟨jz,ax,vV⟩:=hh3 q1 (ac.out G kp) (lY.out G (kp.mono (by simp)));obtain⟨-,c2⟩:=qd.out G kp;have oQ:Hid (bh G V.heap.size (aM n v) 111/\bD G v g n.E/\V.heap.size<G.heap.size/\W.heap.size<=g):=⟨q2,hE.keep eV (by simp),by have :=q3.size;rw[aX] at this;omega,hg⟩;have nL:=ar kp;have ai:Hid (n.E.length≠0->g<V.heap.size):=λh0=>by
   obtain⟨a,cap,-,-,-,h4⟩:=hE;exact(h4 h0).1
  clear hW q1 q2 q3 ae eV kp hE hg qT ac ju;generalize W6:aM n v=Zn at *;go_wp2_with(with_reducible first|refine gS 111 jz.out ?_|refine gL 79 vV.out ?_);refine ax.out.mono ?_;rintro e w3 ⟨af,⟨ag,rfl⟩|⟨rfl,rfl⟩⟩
  ·obtain⟨w5,q1,q2,q3⟩:=iU (d:=0) (nm:=⟨#[]⟩) (th:=false) (i:=0) (bh.new w3 #[(0:Int),.string ⟨#[]⟩,false,(0:Int)] 165) rfl
   have ua:ay [] w3 w5:=((ay.refl [] w3).alloc _).trans q3 (by intro x hx;rw[au] at hx;omega);obtain⟨wy,s1,s2,s3⟩:=jV.out ve ag (Ep.out ag) w5 (nL.out.trans' (af.trans' ua));have b1:(ve != 0)=true:=by simpa using ag
   obtain⟨rz,HS,HL,HF⟩:=hh4 q1 s1 s2 s3;clear q1 q2 q3 af ua s1 s2 s3 ag Ep ah qd jV lY lU AV jt oQ nL jz c2 ax vV xB bc aG Cr aA ak ai;unfold cG at rz;go_wp2_with(with_reducible first|refine gS 165 rz.out ?_|refine gS 34 HS.out ?_);exact aI (bA results61 rfl HL.out) rfl HF.out
  ·obtain⟨w5,q1,q2,q3⟩:=iU (d:=(bq M o.Q).1) (nm:=aS o.Q) (th:=false) (i:=0) (bh.new w3 #[(0:Int),.string ⟨#[]⟩,false,(0:Int)] 165) rfl
   rw[xB.out] at q1 q2;have ua:ay [] w3 w5:=((ay.refl [] w3).alloc _).trans q3 (by intro x hx;rw[au] at hx;omega);have RU:=af.trans' ua;have aJ:=oQ.out.2.2.1;have aD:=af.size;have rU:=oQ.out.1.keep RU (by simp);rw[<-W6] at rU;have d1:w5.cell? ⟨V.heap.size,2,none⟩=some (.int .i64 l0):=by rw[rU.cell,<-ak];exact(gG v aj).f2
   have tY:=Tn rU l1;have O5:ay [V.heap.size] w5 (w5.setCell ⟨V.heap.size,2,none⟩ (.int .i64 l1)):=(ay.refl _ _).setCell (.inl (by simp)) _;have zK:ay [] W (w5.setCell ⟨V.heap.size,2,none⟩ (.int .i64 l1)):=(nL.out.trans' RU).trans O5 (λy hy=>by rw[au] at hy;have :=lU.out;omega);have aF:bD (w5.setCell ⟨V.heap.size,2,none⟩ (.int .i64 l1)) v g n.E:=(oQ.out.2.1.keep RU (by simp)).keep O5 (λh0 bf=>by
    rw[au] at bf;have :=ai.out h0;omega)
   obtain⟨rz,Iy⟩:=hh2 q1 (b9 tY (by exact aj));have Dv:Hid (∀z,ay [b,gp] (w5.setCell ⟨V.heap.size,2,none⟩ (.int .i64 l1)) z->(loadVar 79 w.heap.size).run prog z= .ok (.agg J) z/\(loadVar 165 w3.heap.size).run prog z= .ok (.agg Zs) z):=λz U=>by
    refine⟨lY.out z ((zK.mono (by simp)).trans' U),?_⟩;have h7:=AV.out;have :=jr (d:=(bq M o.Q).1) (nm:=aS o.Q) (th:=false) (i:=0) (by rw[xB.out];exact(q2.keep O5 (by simp;omega)).keep U (by simp;omega));rwa[xB.out] at this
   obtain⟨d2,-⟩:=qd.out _ zK;obtain⟨aP,Ur⟩:=hh2 (ah.out (by first|trivial|rfl) _ v g zK aF oQ.out.2.2.2) rU;clear q1 q2 q3 af ua RU aJ aD tY O5 zK aF Ep ah qd jV lY lU AV jt oQ nL jz c2 ax vV xB Cr aA ak rU ai;have pq:=Ur.out.frozen;generalize aM { n with L:=l1 } v=Z6 at *;clear W6;go_wp2_with(with_reducible first|refine gS 165 rz.out ?_|refine gL 111 Iy.out ?_);refine Rr aP.out ?_;rintro w7 ⟨-,yl,ba⟩;obtain⟨a1,a2⟩:=Dv.out w7 yl;obtain⟨aO,aN,aU⟩:=hh3 a1 a2 ba;clear a1 a2 yl ba Dv aP Iy rz;go_wp2_with(with_reducible first|refine gL 79 aO.out ?_|refine gL 165 aN.out ?_);refine aU.out.mono ?_;rintro e w8 ⟨r,wy,rfl,s1,s2,s3⟩;obtain⟨HS,HL,HF⟩:=hh3 s1 s2 s3;clear s1 s2 s3 aO aN aU;go_wp2_with(with_reducible refine gS 34 HS.out ?_);exact aI (bA results61 rfl HL.out) rfl HF.out
theorem vW:(prog.info? 157).map (·.size)=some 832:=by kernel_rfl
theorem zw (w:World):(zeroValue 157).run prog w= .ok (.agg (kT (List.replicate 832 0)).toArray) w:=by kernel_rfl
theorem xe (l:List Int):∀u∈kT l,u.oneCell'=true:=by
 intro u h;simp only[kT,bF] at h;obtain⟨x,-,rfl⟩:=h;rfl
theorem zx{T:Nat}(z:bh w g (kT l).toArray T)(h:l.length=832):(loadVar 157 g).run prog w= .ok (.agg (kT l).toArray) w:=
 b7 g 0 (kT l) underlying157 rfl (by rw[fG,h];exact vW) λj _=>by rw[z.cell,bc,aF]
def kM (X:List Int) (n:bT) (m:Nat):List Int:=(List.range 832).map λj=>if j<m then mo X n j else 0
theorem xf (X:List Int)(n:bT)(m:Nat):(kM X n m).length=832:=by simp[kM]
theorem Pe (X:List Int)(n:bT):kM X n 0=List.replicate 832 0:=by
 apply cD;intro j;simp only[kM,bJ,bj];by_cases h:j<832
 ·rw[cB h,aB h];rfl
 ·rw[aP (by simpa using h),aA h];rfl
theorem RV (X:List Int)(n:bT):kM X n 832=iT X n:=by
 unfold kM iT;refine dM λj h=> ?_
 rw[aB (bW.1 h)]
theorem Pf (h:n.B.getD k 0=0):kM X n (64*k)=kM X n (64*(k+1)):=by
 unfold kM;refine dM λj G=> ?_
 by_cases z:j<64*k
 ·rw[aB z,aB]
 ·rw[aA z]
  split
  ·unfold mo
   rw[show j/64=k by omega,aB h]
  ·rfl
def yN (W:Nat):List Int:=(lQ W).map λc:Nat=>(c:Int)
theorem vX (W:Nat):(yN W).length=8:=by simp[yN,l8]
theorem Pg (W:Nat):pk (lQ W)=kT (yN W):=by simp[pk,kT,yN]
theorem Wx (W:Nat){j:Nat}(h:j<8):(yN W)[j]? =some ((rJ W j:Nat):Int):=by
 have G:=uP W j h;have z:j<(lQ W).length:=by rw[l8];exact h
 rw[aj,aD z] at G;unfold yN;rw[bJ,aD z];exact cN (λc:Nat=>some (c:Int)) G
theorem Ph{i:Nat}(V:k<13)(hi:i<8)(U:n.B.getD k 0≠0):
  (kM X n (64*k+8*i)).take (64*k+8*i)++(yN (X.getD (1080+8*(n.B.getD k 0).toNat+i) 0).toNat).take (832-(64*k+8*i))++(kM X n (64*k+8*i)).drop (64*k+8*i+min 8 (832-(64*k+8*i)))=kM X n (64*k+8*(i+1)):=by
 rw[show min 8 (832-(64*k+8*i))=8 by omega,aW (i:=832-(64*k+8*i)) (by rw[vX];omega)];apply cD;intro j;have G:((kM X n (64*k+8*i)).take (64*k+8*i)).length=64*k+8*i:=by rw[aJ,xf];omega
 have z:∀m j,j<832->(kM X n m)[j]? =some (if j<m then mo X n j else 0):=λm j h=>by simp[kM,h]
 by_cases J:j<64*k+8*i
 ·rw[aV,ba (by omega),bU,aB J,z _ _ (by omega),z _ _ (by omega),aB J,aB]
 ·by_cases h2:j<64*k+8*i+8
  ·rw[ba (by rw[aC,G,vX];omega),aR (by omega),G,Wx _ (by omega),z _ _ (by omega),aB]
   unfold mo;rw[show j/64=k by omega,aA U,show j%64/8=i by omega,show j%8=j-(64*k+8*i) by omega]
  ·rw[aR (by rw[aC,G,vX];omega),aC,G,vX,b8]
   by_cases W:j<832
   ·rw[z _ _ (by omega),z _ _ (by omega),aA,aA]
   ·rw[aP (by rw[xf];omega),aP (by rw[xf];omega)]
theorem uM (b m:Nat)(J:m<832)(w:World):(Instr.sliceAt 157 (.pointer (some ⟨b,0,none⟩)) (some (.int .i64 (m:Int))) none none).run prog w= .ok (.slice (some ⟨b,m,none⟩) (832-m) (832-m)) w:=by
 have G:∀w,(sizeOf (prog.elem 157)).run prog w= .ok 1 w:=λw=>by show Sem.run _ _ _=_;kernel_rfl
 have h: prog.arrayLen 157 =832:=by kernel_rfl
 have z:=run_sliceAt_array_l (P:= prog) w 157 ⟨b,0,none⟩ (by kernel_rfl) .i64 (m:Int) (by omega) (by rw[h];omega);rw[G,h,aG] at z;rw[z];show _=Result.ok (Value.slice (some ⟨b,m,none⟩) (832-m) (832-m)) w;simp only[Result.andThen,slicedAt,aA (show ¬832=m by omega),iK,add_plain,bc]
theorem Pj (b:Nat)(w:World):(Instr.sliceAt 203 (.pointer (some ⟨b,0,none⟩)) none none none).run prog w= .ok (.slice b 8 8) w:=by
 show Sem.run _ _ _=_;kernel_rfl
theorem KF{b:Int}(h:0<=b)(z:b<256):iO b=1080+8*b:=by unfold iO;rw[aA];omega
def Er (z h:World) (c:Nat) (l:List Int):Prop:=bh h c (kT l).toArray 157/\ay [c] z h
theorem L9{Z:Array Value}(G:bh w g Z 203)(h:Z.size=8)(z:l.length=8):
  ∃w',(storeCells ⟨g,0,none⟩ (kT l).toArray.toList).run prog w= .ok () w'/\bh w' g (kT l).toArray 203/\ay [g] w w':=by
 refine⟨_,run_storeCells_at (P:= prog) g 0 203 (kT l) 0 Z w G (by rw[fG,z,h];omega) (xe _),?_,(ay.refl _ _).setRow (by simp) _⟩;have e:(Z.toList.take (0+0)++kT l++Z.toList.drop (0+0+(kT l).length)).toArray=(kT l).toArray:=by
  rw[dx (by rw[fG,z,dL,h];omega)];simp
 rw[e];exact kv G
def Z8b:Array Value:= #[.int .u8 0,.int .u8 0,.int .u8 0,.int .u8 0,.int .u8 0,.int .u8 0,.int .u8 0,.int .u8 0]
theorem xg{ps:List (Int×Int)}(h:eK w b gp B ps)(aA:b<w.heap.size/\gp<w.heap.size)(aQ:In64 (az B ps)){n:bT}(hB:n.B.length=13)(hN:lF n.B)(o:jB)(vp vq vd v:Value):
  Calls prog 106 #[cA b o vp vq vd,aM n v] w λe w'=>e=(kT (iT (az B ps) n)).toArray/\ay [] w w':=by
 obtain⟨Z,hZ⟩:∃Z,(kT (List.replicate 832 0)).toArray=Z:=⟨_,rfl⟩;obtain⟨W,hW⟩:∃W,(((w.alloc (.cells (cA b o vp vq vd) 79)).alloc (.cells (aM n v) 111)).alloc (.cells Z 157)).alloc (.cells Z 157)=W:=⟨_,rfl⟩;have cJ:ay [] w W:=by rw[<-hW];exact((((ay.refl [] w).alloc _).alloc _).alloc _).alloc _
 have jR:bh W w.heap.size (cA b o vp vq vd) 79 :=by rw[<-hW];exact(((bh.new w _ _).alloc _).alloc _).alloc _
 have IC:bh W (w.heap.size+1) (aM n v) 111 :=by rw[<-hW];exact((bh.new2 w _ _ _ _).alloc _).alloc _
 have jP:bh W (w.heap.size+1+1) Z 157 :=by
  have :=(bh.new2 (w.alloc (.cells (cA b o vp vq vd) 79)) (aM n v) 111 Z 157).alloc (.cells Z 157);rw[aX,hW] at this;exact this
 have Mk:bh W (w.heap.size+1+1+1) Z 157 :=by
  have :=bh.new2 ((w.alloc (.cells (cA b o vp vq vd) 79)).alloc (.cells (aM n v) 111)) Z 157 Z 157;rw[aX,aX,hW] at this;exact this
 have aS:W.heap.size=w.heap.size+1+1+1+1:=by rw[<-hW];simp only[aX]
 have sf:Hid ((loadVar 109 ⟨w.heap.size+1,4,none⟩).run prog W= .ok (.agg (zs n.B).toArray) W):=fA IC hB λk G=>(gG v hB).f4 k G
 have aD:=h.keep cJ (by simp) (by simp);have aV:b<w.heap.size:=h.raw.lt;have ED:Hid (∀(i:Int) (x:Nat) z,ay [w.heap.size+1+1+1] W z->(x:Int)=A5 B ps i->Calls prog 127 #[b,(i:Int)] z λe w'=>e= .returned (.int .u64 (x:Int))/\z=w'):=λi x z G hx=>by
  rw[hx];refine pz (aD.keep G ?_ ?_) i
  ·rw[au];omega
  ·rw[au];omega
 have qd:Hid (∀z,ay [w.heap.size+1+1+1] W z->z.cell? w.heap.size=some (.pointer (some ⟨b,0,none⟩))):=λz G=>by
  rw[(jR.keep G (by rw[au];omega)).cell];rfl
 have aL:Hid (∀k:Nat,k<13->(zs n.B).toArray[k]? =some (.int .i64 (n.B.getD k 0))):=λk G=>by rw[aF,gK (by omega)]
 have qa:Hid (Er W W (w.heap.size+1+1+1) (kM (az B ps) n (64*0))):=⟨by rw[Pe,hZ];exact Mk,ay.refl _ _⟩;have NW:Hid (∀k:Nat,k<13->0<=n.B.getD k 0/\n.B.getD k 0<256):=λk G=>mQ hN G
 have aN:Hid (∀k:Nat,n.B.getD k 0=0->kM (az B ps) n (64*k)=kM (az B ps) n (64*(k+1))):=λk G=>Pf G
 have aP:Hid (∀k i:Nat,k<13->i<8->n.B.getD k 0≠0->∃x:Nat,(x:Int)=A5 B ps (1080+8*n.B.getD k 0+(i:Int))/\(kM (az B ps) n (64*k+8*i)).take (64*k+8*i)++(yN x).take (832-(64*k+8*i))++(kM (az B ps) n (64*k+8*i)).drop (64*k+8*i+min 8 (832-(64*k+8*i)))=kM (az B ps) n (64*k+8*(i+1))):=λk i G hi hb=>by
  have h1:=mQ hN G;refine⟨_,?_,Ph G hi hb⟩;unfold A5;rw[aB,show(1080+8*n.B.getD k 0+(i:Int)).toNat=1080+8*(n.B.getD k 0).toNat+i by omega];have :=aQ (1080+8*(n.B.getD k 0).toNat+i);omega
 have Mo:Hid (∀m,(kM (az B ps) n m).length=832):=λm=>xf _ _ m
 have EN:Hid (∀z,Er W z (w.heap.size+1+1+1) (kM (az B ps) n (64*13))->∃U,(loadVar 157 (w.heap.size+1+1+1:Nat)).run prog z= .ok (.agg (kT (iT (az B ps) n)).toArray) z/\(storeVar 157 (w.heap.size+1+1:Nat) (.agg (kT (iT (az B ps) n)).toArray)).run prog z= .ok () U/\(loadVar 157 (w.heap.size+1+1:Nat)).run prog U= .ok (.agg (kT (iT (az B ps) n)).toArray) U/\ay [] w U):=λz hc=>by
  obtain⟨h1,h2⟩:=hc;rw[show 64*13=832 from rfl,RV] at h1;have hl:(iT (az B ps) n).length=832:=(kP _ _).1;obtain⟨U,q1,q2,q3⟩:=bH (P:= prog) (ty:= 157) (cs:=kT (iT (az B ps) n)) (by rw[fG,hl];exact vW) (jP.keep h2 (by rw[au];omega)) (by rw[<-hZ];simp[fG,hl]) (xe _);refine⟨U,zx h1 hl,q1,zx q2 hl,(cJ.trans h2 ?_).trans q3 ?_⟩<;>(intro x hx;rw[au] at hx;omega)
 have aC:=zw;have lU:=ar aS;rw[hZ] at aC;clear cJ jR IC jP Mk aS h aA aQ hB hN aD aV;generalize kM (az B ps) n=CT,iT (az B ps) n=CL,A5 B ps=GN at *;generalize hq:(kT CL).toArray=CC at *;clear hq hZ;generalize zs n.B=NB,cA b o vp vq vd=J,aM n v=N,n.B.getD=bn at *;go_in;go_wp2_with(with_reducible refine gL 109 sf.out ?_);clear hW aC sf;go_loopg [6,7,8,9,12] 13 (λgh s6 s7 s8 s9 s12 z=>∃k:Nat,k+gh=13/\s12= .int .i64 (k:Int)/\Hid (Er W z (w.heap.size+1+1+1) (CT (64*k))))
 case atStart=>exact⟨0,by omega,rfl,qa⟩
 case round=>
  clear qa;obtain⟨k,G,rfl,V⟩:=hrel;cases gk with
  |zero=>
   obtain rfl:k=13:=by omega
   obtain⟨U,q1,q2,q3,q4⟩:=EN.out _ V.out;obtain⟨HL,HS,rN,jA⟩:=hh4 q1 q2 q3 q4;clear q1 q2 q3 q4 V EN G;go_wp2_with(with_reducible first|refine gL 157 HL.out ?_|refine gS 157 HS.out ?_);exact aI (bA results106 rfl rN.out) rfl ⟨rfl,jA.out⟩
  |succ gg=>
   have mn:k<13:=by omega
   have aA:(k:Int)<13:=by omega
   have cJ:(0:Int)<=(k:Int):=by omega
   have Iv:=yR mn (aL.out k mn);have DN:=NW.out k mn;have ag:=aN.out k;have HW:=ar (aP.out k);clear aP aN aL NW;generalize bn k 0=bb at *;by_cases ah:bb=0
   ·subst ah
    have mZ:=V;rw[ag rfl] at mZ;clear V DN ag HW;go_wp2_with fail;go_roundg gg;case measure=>omega
    case rel=>exact⟨k+1,by omega,by go_num,mZ⟩
   ·have bj:(bb==0)=false:=by simpa using ah
    obtain⟨pb,ae⟩:∃pb,1080+8*bb=pb:=⟨_,rfl⟩;have ou:Hid (∀z,Calls prog 149 #[bb] z λe w'=>e=(pb:Int)/\z=w'):=λz=>by
     have :=ky bb z;rwa[KF DN.1 DN.2,ae] at this
    rw[ae] at HW;have bp:0<=pb/\pb<3121:=by omega
    clear ag ae DN;go_wp2_with fail;go_loopg [8,9,18] 8 (λgh s8 s9 s18 z=>∃i:Nat,i+gh=8/\s18= .int .i64 (i:Int)/\Hid (Er W z (w.heap.size+1+1+1) (CT (64*k+8*i))))
    case atStart=>exact⟨0,by omega,rfl,V⟩
    case round=>
     clear V;obtain⟨i,hi,rfl,V⟩:=hrel;cases gk with
     |zero=>
      obtain rfl:i=8:=by omega
      have mZ:=V;rw[show 64*k+8*8=64*(k+1) by omega] at mZ;clear V hi;go_wp2_with fail;go_roundg gg;case measure=>omega
      case rel=>exact⟨k+1,by omega,by go_num,mZ⟩
     |succ g2=>
      have Mr:i<8:=by omega
      have su:(i:Int)<8:=by omega
      have bt:(0:Int)<=(i:Int):=by omega
      obtain⟨x,hx,aG⟩:=HW.out i mn Mr ah;have aR:=ar aG;have bq:IntKind.i64.wrap (pb+(i:Int))=pb+(i:Int):=by rw[cz];omega
      have HG:Hid (∀z,ay [w.heap.size+1+1+1] W z->Calls prog 127 #[b,.int .i64 (pb+(i:Int))] z λe w'=>e= .returned (.int .u64 (x:Int))/\z=w'):=λz G=>ED.out _ x z G hx
      have aK:Hid (∀z,Calls prog 148 #[.int .u64 (x:Int)] z λe w'=>e=(kT (yN x)).toArray/\ay [] z w'):=λz=>by
       have :=Bf x z;rwa[Pg] at this
      have I0:Hid ((yN x).length=8):=vX x;have QK:=qd.out _ V.out.2;have ba:w.heap.size<wr.heap.size:=by have :=V.out.2.size;have :=lU.out;omega
      clear aG hx HW;generalize yN x=bs at *;generalize aa:(kT bs).toArray=DB at *;have aH:=ar aa;have aU:Hid (∀z g,bh z g Z8b 203->∃w',(storeCells ⟨g,0,none⟩ DB.toList).run prog z= .ok () w'/\bh w' g DB 203/\ay [g] z w'):=λz g hb=>by
       have :=L9 (l:=bs) hb rfl I0.out;rwa[aa] at this
      have bf:DB.size=8:=by rw[<-aa,bN,fG,I0.out]
      have ak:∀z:World,(storeCells ⟨z.heap.size,0,none⟩ DB.toList).run prog (z.alloc (.cells #[.int .u8 0,.int .u8 0,.int .u8 0,.int .u8 0,.int .u8 0,.int .u8 0,.int .u8 0,.int .u8 0] 203))= .ok () (z.alloc (.cells DB 203)):=λz=>by
       have :=run_storeCells_new (P:= prog) z 203 Z8b (kT bs).toArray (by rw[bN,fG,I0.out];exact Tryz.info_bytes) (by show(8:Nat)=_;rw[bN,fG,I0.out]) (by rw[Array.all_eq_true'];intro u hu;exact xe bs u (by simpa using hu));rwa[aa] at this
      clear aa;have aW:w.heap.size+1+1+1<wr.heap.size:=by have :=V.out.2.size;have :=lU.out;omega
      have HA:Hid (∀U,ay [] wr.drew U->bh (U.alloc (.cells DB 203)) U.heap.size DB 203/\Er W (U.alloc (.cells DB 203)) (w.heap.size+1+1+1) (CT (64*k+8*i))/\U.heap.size≠w.heap.size+1+1+1):=λU G=>by
       have h1:wr.heap.size<=U.heap.size:=G.size;exact⟨bh.new _ _ _,⟨((V.out.1.drew).keep G (by simp)).alloc _,((V.out.2.drew).trans G (by simp)).alloc _⟩,by omega⟩
      have aJ:Hid (∀U w9,ay [] (wr.alloc (.cells Z8b 203)).drew U->bh w9 wr.heap.size DB 203->ay [wr.heap.size] U w9->bh w9 wr.heap.size DB 203/\Er W w9 (w.heap.size+1+1+1) (CT (64*k+8*i))/\wr.heap.size≠w.heap.size+1+1+1):=λU w9 G EE PG=>by
       have h0:=V.out.2.size;refine⟨EE,⟨(((V.out.1.alloc _).drew).keep G (by simp)).keep PG (by rw[au];omega),((((V.out.2.alloc _).drew).trans G (by simp))).trans PG λx hx=> ?_⟩,by omega⟩;rw[au] at hx;exact .inr (by omega)
      have YS:Hid (64*k+8*i<832):=by unfold Hid;omega
      obtain⟨off,cap,av,ac⟩:∃off cap,(∀z,(Instr.sliceAt 157 (.pointer (some ⟨w.heap.size+1+1+1,0,none⟩)) (some (.int .i64 ((k:Int)*64+(i:Int)*8))) none none).run prog z= .ok (.slice (some ⟨w.heap.size+1+1+1,off,none⟩) (832-(64*k+8*i)) cap) z)/\off=64*k+8*i:=by
       refine⟨64*k+8*i,832-(64*k+8*i),λz=> ?_,rfl⟩;have :=uM (w.heap.size+1+1+1) (64*k+8*i) (by omega) z;rwa[show((64*k+8*i:Nat):Int)=(k:Int)*64+(i:Int)*8 by omega] at this
      have aO:=ar av;clear av
      go_upto_region 9 with fail
      go_cut [9] (λs9 z=>∃a:Nat,s9= .pointer (some ⟨a,0,none⟩)/\Hid (bh z a DB 203/\Er W z (w.heap.size+1+1+1) (CT (64*k+8*i))/\a≠w.heap.size+1+1+1))
      case first=>
       go_region_with (first|(go_at_call 149;refine C' (ou.out _) ?_)|(go_at_call 127;refine(HG.out _ (by first|exact V.out.2|exact V.out.2.drew|exact(V.out.2.drew).alloc _)).mono ?_;rintro e w1 ⟨rfl,rfl⟩)|(go_at_call 148;refine Rr (aK.out _) λU af=> ?_;(try (obtain⟨w9,q1,q2,q3⟩:=aU.out U _ ((bh.new wr Z8b 203).drew.keep af (by simp));(have br:(storeCells ⟨wr.heap.size,0,none⟩ DB.toList).run prog U= .ok () w9:=q1);(have Q2:=ar q2);(have Q3:=ar q3);clear q1 q2 q3));(have fx:=ar af);clear af))
       all_goals go_wp2_with fail
       all_goals go_meet
       all_goals first|exact⟨_,rfl,aJ.out _ _ fx.out Q2.out Q3.out⟩|exact⟨_,rfl,HA.out _ fx.out⟩
      case rest=>
       clear HA aJ aU ak bf ou HG aK QK V aW ba;obtain⟨a,rfl,aT⟩:=hcut;obtain⟨EE,ai,aY⟩:=aT.out;rw[<-aH.out] at EE;have EK:Reads wc (.slice a 8 8) a (kT bs):=by
        refine⟨some ⟨a,0,none⟩,8,by rw[fG,I0.out],by rw[fG,I0.out];omega,by unfold maxLen;omega,λ_=>⟨EE.lt,0,rfl,λj hj=> ?_⟩⟩;rw[EE.cell,bc,aF]
       obtain⟨r,w4,zS,aj,ax⟩:=Tt (w:=wc.drew) (o:=off) (n:=832-(64*k+8*i)) (cap:=cap) ai.1.drew EK (by rw[Mo.out,I0.out,ac];have :=YS.out;omega);rw[I0.out,ac,aR.out] at aj;have aZ:Hid (Er W w4 (w.heap.size+1+1+1) (CT (64*k+8*(i+1)))):=⟨aj,ai.2.drew.trans' ax⟩;have bg:=aO.out;have bo:∀z,(Instr.sliceAt 203 (.pointer (some ⟨a,0,none⟩)) none none none).run prog z= .ok (.slice a 8 8) z:=λz=>Pj a z
       have Nh:=zS 3;have WT:IntKind.i64.wrap ((k:Int)*64)=(k:Int)*64:=by rw[cz];omega
       have bk:IntKind.i64.wrap ((i:Int)*8)=(i:Int)*8:=by rw[cz];omega
       have bl:IntKind.i64.wrap ((k:Int)*64+(i:Int)*8)=(k:Int)*64+(i:Int)*8:=by rw[cz];omega
       clear zS aj ax EK EE ai aY aT aH aO aR ac;go_wp2_with fail;go_region_with (fail)
       go_wp2_with fail;go_roundg g2;case measure=>omega
       case rel=>exact⟨i+1,by omega,by go_num,aZ⟩
end Go.Proofs.YtepbpdipenedhaaGreatDoor

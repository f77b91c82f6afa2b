/- Lemmas. -/
import Derived.Test.YtimcfdnbpkiniaaGreatDoorM28
set_option maxHeartbeats 1000000
set_option maxRecDepth 100000
namespace Go.Proofs.YtimcfdnbpkiniaaGreatDoor
open Go.Proofs.Tryz
open Go.RowKit
section
variable{M:Nat->Nd}{w:World}{b:Nat}
theorem Ks (G:dB M)(hF:mW M){j:Nat}(h:(M j).K≠0):1<=(M j).L/\(M j).L<=768:=by
 have U:=G.rng h;have J:=G.links j U;have V:=Tn hF j 32;rcases G.kind j with z|z|z
 ·rw[z] at h;exact absurd rfl h
 ·have :=J.1 z.1;omega
 ·have :=J.2 z.1;omega
theorem aaG{gp:Nat}{B:List Int}{T:List (bS×Value)}{own:Nat->List Nat}(h:rz w b gp B [] T own [] M)(hT:dB M){o:iP}{vp vq vd:Value}{g g2:Nat}(hP:fU w vp g o.P)(hs:∀s∈o.P,s.size<=9223372036854775807)(hQ:fU w vq g2 o.Q)(aS:∀s∈o.Q,s.size<=9223372036854775807)(hK:o.K=8):
  Calls prog 72 #[cC b o vp vq vd] w (fH w b gp B (kY B M o)):=by
 obtain⟨W,hW,cM,jK,jI,ai⟩:=mq w (cC b o vp vq vd) (tU fh (.slice none 0 0) (.slice none 0 0));have qN:=ar (zi (vq:=vq) (vd:=vd) (h.keep0 cM) hT (hP.keep cM) hs);have aa:Hid (∀z,ay [] W z->Calls prog 127 #[cC b o vp vq vd,vq] z (Rw z M o.Q)):=λz V=>Kl (h.keep0 (cM.trans' V)) hT o vp vq vd (hQ.keep (cM.trans' V)) aS
 have nU:=ar (wU h hT cM jK jI rfl ai);have af:=h.lt;obtain⟨lJ,AH⟩:=hh2 ai af;have pX:Hid (∀z,ay [] W z->z.cell? w.heap.size=some (.pointer (some ⟨b,0,none⟩))/\z.cell? ⟨w.heap.size,3,none⟩=some vq):=λz V=>by
  have h1:=jK.keep V;exact⟨by rw[h1.cell];rfl,by rw[h1.cell];rfl⟩
 have lN:Hid (∀z,ay [b,gp] W z->(loadVar 91 w.heap.size).run prog z= .ok (.agg (cC b o vp vq vd)) z):=λz V=>jC (jK.keep V (eF af (by omega)))
 have tP:Hid ((dc M o.P).2≠0->(iJ M o).2=cW (dc M o.P).2):=V4 hK;have ry:Hid ((dc M o.P).2=0->qx M o.Q≠0->(iJ M o).2=cW (qx M o.Q)):=Ry hK;have nP:Hid ((dc M o.P).2=0->(nT T (dc M o.P).1).B.length=13/\(nT T (dc M o.P).1).L=(M (dc M o.P).1).L/\1<=(M (dc M o.P).1).L/\(M (dc M o.P).1).L<=768):=λhe=>by
  obtain⟨h1,h2,h3⟩:=pK he;rw[h3];have V:=(nL hT h1).1;exact⟨(h.nd.store V).len,h.nd.links _,Ks hT (h.nd.snd hT).few V⟩
 have LI:Hid ((dc M o.P).2=0->qx M o.Q=0->∀z v g,ay [] W z->bD z v g (nT T (dc M o.P).1).E->W.heap.size<=g->Calls prog 48 #[b,((dc M o.P).1:Int),.agg (aL { nT T (dc M o.P).1 with L:=(M (dc M o.P).1).L+1 } v)] z λe G=>e=(0:Int)/\ay [b,gp] W G/\ay [b,gp] z G/\
   Calls prog 128 #[cC b o vp vq vd,cH (bo M o.Q).1 (aQ o.Q) false 0,((dc M o.P).1:Int)] G (yD w b gp B (kY B M o))):=λhe hv z v g V hE hg=>by
  obtain⟨h1,h2,h3⟩:=pK he;obtain⟨g1,g2,g3⟩:=zh hv;have bb:=nL hT h1;rw[h3] at hE ⊢;generalize hi:(cO M o.P).1=i at *;have xa:=bb.1;have aD:=h.nd.store xa;have UJ:=Ks hT (h.nd.snd hT).few xa;have hp:=pG (M:=M) g2;have bg:(bo M o.Q).1≠i:=λe=>by have :=hp.1;rw[e] at this;omega
  refine((h.keep0 cM).put (by simp) i (n:={ nT T i with L:=(M i).L+1 }) (R:=λr qs=>r=0/\Goes (az B []) qs [] (na M i { M i with L:=(M i).L+1 }) 100/\(aY (az B [])).length=(aY (az (az B []) qs)).length) aD.len (show ∀k,k<(nT T i).E.length->(eY (nT T i).E k).size<=9223372036854775807 from yb aD.right) (λr qs hp=>h.nd.links' xa (by omega) hp) V hE hg).mono ?_;rintro e G ⟨⟨r,q1,kQ,rfl,e1,e2,e3,e4,rfl,aI,oZ⟩,yQ⟩;refine⟨rfl,e3,yQ,?_⟩;obtain⟨T1,bl,t1,-⟩:=id aI;have bh:=(h.keep0 cM).go e2 e3 e1 t1;have jr:=h.nd.rng xa;refine(Ho bh (by rw[bN];omega) o vp vq vd (d:=(bo M o.Q).1) (by rw[dH _ _ bg];exact hp.1) hp.2.1 false 0 (i:=(i:Int)) (by omega)).mono ?_;rintro e w3 ⟨x,q2,lH,rfl,f1,f2,f3,f4,f5⟩;have aP:ay [b,gp] W w3:=e3.trans f3 λy hy=>by
   simp only[aM,aK,bC] at hy ⊢;omega
  obtain⟨wy,s1,s2,s3,s4⟩:=lG jI rfl aP (eF af (by omega)) x;have aT:=e3.size;have aN:=f3.size;refine⟨x,wy,rfl,s1,s2,fH.some af cM (by omega) (Rq:=λ_ q=>kY B M o { fh with E:=x } q) (m:=1400) ⟨x,q1++q2,lH,rfl,by omega,by rw[<-aV];exact f2,aP,by rw[aC];omega,?_⟩ (by omega) s4 s3 λ_ hq=>hq⟩;refine V6 hT hK he hv hi aI oZ.symm ?_;have aX:=f5;rw[br] at aX;exact aX
 have EU:=lD;have bk:=oV;have rq:=dC;obtain⟨jl,jO⟩:=hh2 (nU.out.load W (ay.refl _ _)) nU.out.err;clear h hT hP hs hQ aS cM jK jI ai hK af nU;have e0:cH 0 ⟨#[]⟩ false 0= #[.int .i64 0,.string ⟨#[]⟩,.bool false,.int .i64 0]:=rfl;unfold AE at qN;unfold Rw at aa;unfold yD at LI;rw[lF] at *;rw[e0] at aa;clear e0;generalize fH w b gp B (kY B M o)=Q,hJ:cC b o vp vq vd=J,qx M o.Q=ve,iJ M o=DM,aF:aL bY (.slice none 0 0)=Z0,aR:cH (bo M o.Q).1 (aQ o.Q) false 0=Zs at *;obtain⟨xp,jt⟩:=hh2 aR aF;clear hJ aF aR;generalize dc M o.P=F at *;obtain⟨x,ee⟩:=F
 dsimp only at *
 go_in;go_wp2_with(with_reducible refine gL 91 jl.out ?_);refine qN.out.mono ?_;rintro e U ⟨ac,⟨he,rfl⟩|⟨rfl,v,g,rfl,hE,hg⟩⟩
 ·obtain⟨G,q1,q2,q3⟩:=cr (n:=bY) (v:= .slice none 0 0) (bc.new U Z0 75) (by rw[<-jt.out];rfl) rfl rfl
  have eP:ay [] U G:=((ay.refl _ _).alloc _).trans q3 (by intro x hx;rw[au] at hx;omega);obtain⟨wy,s1,s2,s3⟩:=jO.out ee he (tP.out he) G (ac.trans' eP);rw[jt.out] at q1;obtain⟨jh,HS,HL,HF⟩:=hh4 q1 s1 s2 s3;have b1:(ee != 0)=true:=by simpa using he
  clear hW q1 q2 q3 ac eP s1 s2 s3 he jO tP ry nP LI qN aa pX lN jl lJ AH jt xp;go_wp2_with(with_reducible first|refine gS 75 jh.out ?_|refine gS 38 HS.out ?_);exact aH (bu results72 rfl HL.out) rfl HF.out
 ·obtain⟨av,aj,Cj,aA⟩:=nP.out rfl
  obtain⟨Eo,ag⟩:=hh2 (ry.out rfl) (LI.out rfl);clear ry LI tP nP;generalize nT T x=n,(M x).L=l0,(x:Int)=xi at *;obtain⟨l1,aZ⟩:∃l1,l0+1=l1:=⟨_,rfl⟩;have bj:IntKind.i64.wrap l1=l1:=by rw[cB];omega
  rw[aZ] at ag;obtain⟨G,q1,q2,q3⟩:=cr (n:=n) (v:=v) (bc.new U Z0 75) (by rw[<-jt.out];rfl) av hE.one;have eP:ay [] U G:=((ay.refl _ _).alloc _).trans q3 (by intro x hx;rw[au] at hx;omega);have jY:=ac.trans' eP;have bn:w.heap.size+2<=U.heap.size:=by have :=ac.size;have :=lJ.out;omega
  obtain⟨jh,ax,vL⟩:=hh3 q1 (aa.out G jY) (lN.out G (jY.mono));obtain⟨-,c2⟩:=pX.out G jY;have oD:Hid (bc G U.heap.size (aL n v) 75/\bD G v g n.E/\U.heap.size<G.heap.size/\W.heap.size<=g):=⟨q2,hE.keep eP,by have :=q3.size;rw[aU] at this;omega,hg⟩;have mK:=ar jY;have ak:Hid (n.E.length≠0->g<U.heap.size):=λh0=>by
   obtain⟨a,cap,-,-,-,h4⟩:=hE;exact(h4 h0).1
  clear hW q1 q2 q3 ac eP jY hE hg qN aa jl;generalize Xb:aL n v=Zn at *;go_wp2_with(with_reducible first|refine gS 75 jh.out ?_|refine gL 91 vL.out ?_);refine ax.out.mono ?_;rintro e w3 ⟨ae,⟨ah,rfl⟩|⟨rfl,rfl⟩⟩
  ·obtain⟨w5,q1,q2,q3⟩:=iQ (d:=0) (nm:=⟨#[]⟩) (th:=false) (i:=0) (bc.new w3 #[(0:Int),.string ⟨#[]⟩,false,(0:Int)] 174) rfl
   have tZ:ay [] w3 w5:=((ay.refl [] w3).alloc _).trans q3 (by intro x hx;rw[au] at hx;omega);obtain⟨wy,s1,s2,s3⟩:=jO.out ve ah (Eo.out ah) w5 (mK.out.trans' (ae.trans' tZ));have b1:(ve != 0)=true:=by simpa using ah
   obtain⟨rp,HS,HL,HF⟩:=hh4 q1 s1 s2 s3;clear q1 q2 q3 ae tZ s1 s2 s3 ah Eo ag pX jO lN lJ AH jt oD mK jh c2 ax vL xp bj aZ Cj aA aj ak;unfold cH at rp;go_wp2_with(with_reducible first|refine gS 174 rp.out ?_|refine gS 38 HS.out ?_);exact aH (bu results72 rfl HL.out) rfl HF.out
  ·obtain⟨w5,q1,q2,q3⟩:=iQ (d:=(bo M o.Q).1) (nm:=aQ o.Q) (th:=false) (i:=0) (bc.new w3 #[(0:Int),.string ⟨#[]⟩,false,(0:Int)] 174) rfl
   rw[xp.out] at q1 q2;have tZ:ay [] w3 w5:=((ay.refl [] w3).alloc _).trans q3 (by intro x hx;rw[au] at hx;omega);have RQ:=ae.trans' tZ;have aT:=oD.out.2.2.1;have aN:=ae.size;have rQ:=oD.out.1.keep RQ;rw[<-Xb] at rQ;have d1:w5.cell? ⟨U.heap.size,2,none⟩=some (.int .i64 l0):=by rw[rQ.cell,<-aj];exact(fT v av).f2
   have tX:=Tm rQ l1;have OX:ay [U.heap.size] w5 (w5.setCell ⟨U.heap.size,2,none⟩ (.int .i64 l1)):=(ay.refl _ _).setCell (.inl (by simp)) _;have zz:ay [] W (w5.setCell ⟨U.heap.size,2,none⟩ (.int .i64 l1)):=(mK.out.trans' RQ).trans OX (λy hy=>by rw[au] at hy;have :=lJ.out;omega);have aO:bD (w5.setCell ⟨U.heap.size,2,none⟩ (.int .i64 l1)) v g n.E:=(oD.out.2.1.keep RQ).keep OX (λh0 bf=>by
    rw[au] at bf;have :=ak.out h0;omega)
   obtain⟨rp,Ig⟩:=hh2 q1 (bZ tX (by exact av));have Dp:Hid (∀z,ay [b,gp] (w5.setCell ⟨U.heap.size,2,none⟩ (.int .i64 l1)) z->(loadVar 91 w.heap.size).run prog z= .ok (.agg J) z/\(loadVar 174 w3.heap.size).run prog z= .ok (.agg Zs) z):=λz V=>by
    refine⟨lN.out z ((zz.mono).trans' V),?_⟩;have h7:=AH.out;have :=jk (d:=(bo M o.Q).1) (nm:=aQ o.Q) (th:=false) (i:=0) (by rw[xp.out];exact(q2.keep OX (by simp;omega)).keep V (by simp;omega));rwa[xp.out] at this
   obtain⟨d2,-⟩:=pX.out _ zz;obtain⟨aG,Un⟩:=hh2 (ag.out (by first|trivial|rfl) _ v g zz aO oD.out.2.2.2) rQ;clear q1 q2 q3 ae tZ RQ aT aN tX OX zz aO Eo ag pX jO lN lJ AH jt oD mK jh c2 ax vL xp Cj aA aj rQ ak;have oZ:=Un.out.frozen;generalize aL { n with L:=l1 } v=Z6 at *;clear Xb;go_wp2_with(with_reducible first|refine gS 174 rp.out ?_|refine gL 75 Ig.out ?_);refine Rr aG.out ?_;rintro w7 ⟨-,xZ,aB⟩;obtain⟨a1,a2⟩:=Dp.out w7 xZ;obtain⟨aW,aJ,ba⟩:=hh3 a1 a2 aB;clear a1 a2 xZ aB Dp aG Ig rp;go_wp2_with(with_reducible first|refine gL 91 aW.out ?_|refine gL 174 aJ.out ?_);refine ba.out.mono ?_;rintro e w8 ⟨r,wy,rfl,s1,s2,s3⟩;obtain⟨HS,HL,HF⟩:=hh3 s1 s2 s3;clear s1 s2 s3 aW aJ ba;go_wp2_with(with_reducible refine gS 38 HS.out ?_);exact aH (bu results72 rfl HL.out) rfl HF.out
end
section
variable{M:Nat->Nd}{w:World}{b:Nat}
theorem acZ:(prog.info? 5).map (λi=>(i.zero,i.size,i.bytes))=some (some (.int .u8 0),1,1):=by kernel_rfl
theorem Tz:(prog.info? 5).map (·.size)=some 1:=by kernel_rfl
theorem TA{T o n cap V:Nat}{v:Value}{z h:List Int}(U:bc w b (ky z).toArray T)(hs:Reads w v V (ky h))(W:o+min h.length n<=z.length):
  ∃r w',(∀ty,(Builtin.copy_ #[29,29] ty #[.slice (some ⟨b,o,none⟩) n cap,v]).run prog w= .ok r w')/\bc w' b (ky (z.take o++h.take n++z.drop (o+min h.length n))).toArray T/\ay [b] w w':=by
 obtain⟨a,c,rfl,h1,h2,h3⟩:=hs;rw[fq] at *;by_cases h0:h.length=0
 ·obtain rfl:=bg h0
  refine⟨_,w,λty=>run_copy_none (P:= prog) w 29 29 ty 5 _ a n cap 0 c underlying29 Tz (by simp),?_,ay.refl _ _⟩;rw[List.take_nil,bz,cD,Nat.zero_min,dE,dx];exact U
 ·obtain⟨hg,off,rfl,hc⟩:=h3 (λe=>h0 (by have :=cP List.length e;rwa[fq,cD] at this))
  have J:(ky (h.take n)).length=min h.length n:=by rw[fq,aJ,Nat.min_comm]
  refine⟨_,_,λty=>run_copy_row (P:= prog) w 29 29 ty 5 b o n cap ⟨V,off,none⟩ h.length c (ky z).toArray T (ky (h.take n)) underlying29 Tz U J ?_ ?_ ?_,?_,(ay.refl _ _).setRow (by simp) _⟩
  ·intro j u G
   have hj:j<min h.length n:=by
    have :=(List.getElem?_eq_some_iff.1 G).1;rwa[J] at this
   rw[add_plain,hc j (by omega),<-G];simp only[ky,bO,bU];rw[aB]
  ·rw[bP,J,fq];omega
  ·intro u G
   simp only[ky,bH] at G;obtain⟨x,-,rfl⟩:=G;rfl
  ·have e:((ky z).toArray.toList.take o++ky (h.take n)++(ky z).toArray.toList.drop (o+(ky (h.take n)).length)).toArray=(ky (z.take o++h.take n++z.drop (o+min h.length n))).toArray:=by
    rw[J];simp[ky,List.map_drop]
   rw[e];exact j4 U
end
end Go.Proofs.YtimcfdnbpkiniaaGreatDoor

/- Lemmas. -/
import Derived.Test.YtimcfdnbpkiniaaGreatDoorM29
set_option maxHeartbeats 1000000
set_option maxRecDepth 100000
namespace Go.Proofs.YtimcfdnbpkiniaaGreatDoor
open Go.Proofs.Tryz
open Go.RowKit
section
variable{M:Nat->Nd}{w:World}{b:Nat}
theorem KA (G:dw M)(hF:ni M){j:Nat}(h:(M j).K≠0):1<=(M j).L/\(M j).L<=768:=by
 have U:=G.rng h;have J:=G.links j U;have V:=Tt hF j 32;rcases G.kind j with z|z|z
 ·rw[z] at h;exact absurd rfl h
 ·have :=J.1 z.1;omega
 ·have :=J.2 z.1;omega
theorem aaA{gp:Nat}{B:List Int}{T:List (bT×Value)}{own:Nat->List Nat}(h:rC w b gp B [] T own [] M)(hT:dw M){o:jz}{vp vq vd:Value}{g g2:Nat}(hP:gN w vp g o.P)(hs:∀s∈o.P,s.size<=9223372036854775807)(hQ:gN w vq g2 o.Q)(aQ:∀s∈o.Q,s.size<=9223372036854775807)(hK:o.K=8):
  Calls prog 72 #[cB b o vp vq vd] w (fF w b gp B (lv B M o)):=by
 obtain⟨W,hW,cM,jN,jL,av⟩:=mI w (cB b o vp vq vd) (zo fy (.slice none 0 0) (.slice none 0 0));have qV:=ar (zu (vq:=vq) (vd:=vd) (h.keep0 cM) hT (hP.keep cM (by simp)) hs);have ae:Hid (∀z,ay [] W z->Calls prog 127 #[cB b o vp vq vd,vq] z (Rx z M o.Q)):=λz U=>Kr (h.keep0 (cM.trans' U)) hT o vp vq vd (hQ.keep (cM.trans' U) (by simp)) aQ
 have oh:=ar (wX h hT cM jN jL rfl av);have af:=h.lt;obtain⟨lU,AZ⟩:=hh2 av af;have qd:Hid (∀z,ay [] W z->z.cell? w.heap.size=some (.pointer (some ⟨b,0,none⟩))/\z.cell? ⟨w.heap.size,3,none⟩=some vq):=λz U=>by
  have h1:=jN.keep U (by simp);exact⟨by rw[h1.cell];rfl,by rw[h1.cell];rfl⟩
 have lY:Hid (∀z,ay [b,gp] W z->(loadVar 91 w.heap.size).run prog z= .ok (.agg (cB b o vp vq vd)) z):=λz U=>jG (jN.keep U (eD af (by omega)))
 have tV:Hid ((dc M o.P).2≠0->(ko M o).2=cW (dc M o.P).2):=V6 hK;have rO:Hid ((dc M o.P).2=0->qG M o.Q≠0->(ko M o).2=cW (qG M o.Q)):=Rz hK;have ou:Hid ((dc M o.P).2=0->(nT T (dc M o.P).1).B.length=13/\(nT T (dc M o.P).1).L=(M (dc M o.P).1).L/\1<=(M (dc M o.P).1).L/\(M (dc M o.P).1).L<=768):=λhe=>by
  obtain⟨h1,h2,h3⟩:=pX he;rw[h3];have U:=(nV hT h1).1;exact⟨(h.nd.store U).len,h.nd.links _,KA hT (h.nd.snd hT).few U⟩
 have LS:Hid ((dc M o.P).2=0->qG M o.Q=0->∀z v g,ay [] W z->bD z v g (nT T (dc M o.P).1).E->W.heap.size<=g->Calls prog 48 #[b,((dc M o.P).1:Int),.agg (aM { nT T (dc M o.P).1 with L:=(M (dc M o.P).1).L+1 } v)] z λe G=>e=(0:Int)/\ay [b,gp] W G/\ay [b,gp] z G/\
   Calls prog 128 #[cB b o vp vq vd,cH (bq M o.Q).1 (aS o.Q) false 0,((dc M o.P).1:Int)] G (yM w b gp B (lv B M o))):=λhe hv z v g U hE hg=>by
  obtain⟨h1,h2,h3⟩:=pX he;obtain⟨g1,g2,g3⟩:=zt hv;have bf:=nV hT h1;rw[h3] at hE ⊢;generalize hi:(cN M o.P).1=i at *;have xD:=bf.1;have aY:=h.nd.store xD;have UL:=KA hT (h.nd.snd hT).few xD;have hp:=pU (M:=M) g2;have bc:(bq M o.Q).1≠i:=λe=>by have :=hp.1;rw[e] at this;omega
  refine((h.keep0 cM).put (by simp) i (n:={ nT T i with L:=(M i).L+1 }) (R:=λr qs=>r=0/\Goes (az B []) qs [] (nu M i { M i with L:=(M i).L+1 }) 100/\(aZ (az B [])).length=(aZ (az (az B []) qs)).length) aY.len (show ∀k,k<(nT T i).E.length->(eX (nT T i).E k).size<=9223372036854775807 from yo aY.right) (λr qs hp=>h.nd.links' xD (by omega) hp) U hE hg).mono ?_;rintro e G ⟨⟨r,q1,kX,rfl,e1,e2,e3,e4,rfl,aJ,po⟩,Cj⟩;refine⟨rfl,e3,Cj,?_⟩;obtain⟨T1,bk,t1,-⟩:=id aJ;have bg:=(h.keep0 cM).go e2 e3 e1 t1;have jD:=h.nd.rng xD;refine(H9 bg (by rw[bQ];omega) o vp vq vd (d:=(bq M o.Q).1) (by rw[dJ _ _ bc];exact hp.1) hp.2.1 false 0 (i:=(i:Int)) (by omega)).mono ?_;rintro e w3 ⟨x,q2,lS,rfl,f1,f2,f3,f4,f5⟩;have aG:ay [b,gp] W w3:=e3.trans f3 λy hy=>by
   simp only[aL,aK,bC] at hy ⊢;omega
  obtain⟨wy,s1,s2,s3,s4⟩:=lM jL rfl aG (eD af (by omega)) x;have aW:=e3.size;have aH:=f3.size;refine⟨x,wy,rfl,s1,s2,fF.some af cM (by omega) (Rq:=λ_ q=>lv B M o { fy with E:=x } q) (m:=1400) ⟨x,q1++q2,lS,rfl,by omega,by rw[<-aV];exact f2,aG,by rw[aC];omega,?_⟩ (by omega) s4 s3 λ_ hq=>hq⟩;refine V8 hT hK he hv hi aJ po.symm ?_;have aP:=f5;rw[bz] at aP;exact aP
 have Gm:=l6;have bl:=pg;have rH:=dA;obtain⟨jo,jR⟩:=hh2 (oh.out.load W (ay.refl _ _)) oh.out.err;clear h hT hP hs hQ aQ cM jN jL av hK af oh;have e0:cH 0 ⟨#[]⟩ false 0= #[.int .i64 0,.string ⟨#[]⟩,.bool false,.int .i64 0]:=rfl;unfold AX at qV;unfold Rx at ae;unfold yM at LS;rw[lL] at *;rw[e0] at ae;clear e0;generalize fF w b gp B (lv B M o)=Q,hJ:cB b o vp vq vd=J,qG M o.Q=ve,ko M o=DM,aR:aM ck (.slice none 0 0)=Z0,ba:cH (bq M o.Q).1 (aS o.Q) false 0=Zs at *;obtain⟨xt,jy⟩:=hh2 ba aR;clear hJ aR ba;generalize dc M o.P=F at *;obtain⟨x,ee⟩:=F
 dsimp only at *
 go_in;go_wp2_with(with_reducible refine gL 91 jo.out ?_);refine qV.out.mono ?_;rintro e V ⟨ac,⟨he,rfl⟩|⟨rfl,v,g,rfl,hE,hg⟩⟩
 ·obtain⟨G,q1,q2,q3⟩:=cz (n:=ck) (v:= .slice none 0 0) (bh.new V Z0 75) (by rw[<-jy.out];rfl) rfl rfl
  have eV:ay [] V G:=((ay.refl _ _).alloc _).trans q3 (by intro x hx;rw[au] at hx;omega);obtain⟨wy,s1,s2,s3⟩:=jR.out ee he (tV.out he) G (ac.trans' eV);rw[jy.out] at q1;obtain⟨jw,HS,HL,HF⟩:=hh4 q1 s1 s2 s3;have b1:(ee != 0)=true:=by simpa using he
  clear hW q1 q2 q3 ac eV s1 s2 s3 he jR tV rO ou LS qV ae qd lY jo lU AZ jy xt;go_wp2_with(with_reducible first|refine gS 75 jw.out ?_|refine gS 38 HS.out ?_);exact aI (bA results72 rfl HL.out) rfl HF.out
 ·obtain⟨ax,ak,Cx,aD⟩:=ou.out rfl
  obtain⟨Ey,ag⟩:=hh2 (rO.out rfl) (LS.out rfl);clear rO LS tV ou;generalize nT T x=n,(M x).L=l0,(x:Int)=xi at *;obtain⟨l1,aF⟩:∃l1,l0+1=l1:=⟨_,rfl⟩;have bb:IntKind.i64.wrap l1=l1:=by rw[cy];omega
  rw[aF] at ag;obtain⟨G,q1,q2,q3⟩:=cz (n:=n) (v:=v) (bh.new V Z0 75) (by rw[<-jy.out];rfl) ax hE.one;have eV:ay [] V G:=((ay.refl _ _).alloc _).trans q3 (by intro x hx;rw[au] at hx;omega);have kg:=ac.trans' eV;have bn:w.heap.size+2<=V.heap.size:=by have :=ac.size;have :=lU.out;omega
  obtain⟨jw,aj,vO⟩:=hh3 q1 (ae.out G kg) (lY.out G (kg.mono (by simp)));obtain⟨-,c2⟩:=qd.out G kg;have oP:Hid (bh G V.heap.size (aM n v) 75/\bD G v g n.E/\V.heap.size<G.heap.size/\W.heap.size<=g):=⟨q2,hE.keep eV (by simp),by have :=q3.size;rw[aX] at this;omega,hg⟩;have nK:=ar kg;have ai:Hid (n.E.length≠0->g<V.heap.size):=λh0=>by
   obtain⟨a,cap,-,-,-,h4⟩:=hE;exact(h4 h0).1
  clear hW q1 q2 q3 ac eV kg hE hg qV ae jo;generalize W9:aM n v=Zn at *;go_wp2_with(with_reducible first|refine gS 75 jw.out ?_|refine gL 91 vO.out ?_);refine aj.out.mono ?_;rintro e w3 ⟨aa,⟨ah,rfl⟩|⟨rfl,rfl⟩⟩
  ·obtain⟨w5,q1,q2,q3⟩:=iU (d:=0) (nm:=⟨#[]⟩) (th:=false) (i:=0) (bh.new w3 #[(0:Int),.string ⟨#[]⟩,false,(0:Int)] 174) rfl
   have tU:ay [] w3 w5:=((ay.refl [] w3).alloc _).trans q3 (by intro x hx;rw[au] at hx;omega);obtain⟨wy,s1,s2,s3⟩:=jR.out ve ah (Ey.out ah) w5 (nK.out.trans' (aa.trans' tU));have b1:(ve != 0)=true:=by simpa using ah
   obtain⟨rA,HS,HL,HF⟩:=hh4 q1 s1 s2 s3;clear q1 q2 q3 aa tU s1 s2 s3 ah Ey ag qd jR lY lU AZ jy oP nK jw c2 aj vO xt bb aF Cx aD ak ai;unfold cH at rA;go_wp2_with(with_reducible first|refine gS 174 rA.out ?_|refine gS 38 HS.out ?_);exact aI (bA results72 rfl HL.out) rfl HF.out
  ·obtain⟨w5,q1,q2,q3⟩:=iU (d:=(bq M o.Q).1) (nm:=aS o.Q) (th:=false) (i:=0) (bh.new w3 #[(0:Int),.string ⟨#[]⟩,false,(0:Int)] 174) rfl
   rw[xt.out] at q1 q2;have tU:ay [] w3 w5:=((ay.refl [] w3).alloc _).trans q3 (by intro x hx;rw[au] at hx;omega);have RS:=aa.trans' tU;have aW:=oP.out.2.2.1;have aH:=aa.size;have rT:=oP.out.1.keep RS (by simp);rw[<-W9] at rT;have d1:w5.cell? ⟨V.heap.size,2,none⟩=some (.int .i64 l0):=by rw[rT.cell,<-ak];exact(gG v ax).f2
   have tS:=Tq rT l1;have O3:ay [V.heap.size] w5 (w5.setCell ⟨V.heap.size,2,none⟩ (.int .i64 l1)):=(ay.refl _ _).setCell (.inl (by simp)) _;have zK:ay [] W (w5.setCell ⟨V.heap.size,2,none⟩ (.int .i64 l1)):=(nK.out.trans' RS).trans O3 (λy hy=>by rw[au] at hy;have :=lU.out;omega);have aB:bD (w5.setCell ⟨V.heap.size,2,none⟩ (.int .i64 l1)) v g n.E:=(oP.out.2.1.keep RS (by simp)).keep O3 (λh0 bj=>by
    rw[au] at bj;have :=ai.out h0;omega)
   obtain⟨rA,Iy⟩:=hh2 q1 (cg tS (by exact ax));have DA:Hid (∀z,ay [b,gp] (w5.setCell ⟨V.heap.size,2,none⟩ (.int .i64 l1)) z->(loadVar 91 w.heap.size).run prog z= .ok (.agg J) z/\(loadVar 174 w3.heap.size).run prog z= .ok (.agg Zs) z):=λz U=>by
    refine⟨lY.out z ((zK.mono (by simp)).trans' U),?_⟩;have h7:=AZ.out;have :=jn (d:=(bq M o.Q).1) (nm:=aS o.Q) (th:=false) (i:=0) (by rw[xt.out];exact(q2.keep O3 (by simp;omega)).keep U (by simp;omega));rwa[xt.out] at this
   obtain⟨d2,-⟩:=qd.out _ zK;obtain⟨aO,Uq⟩:=hh2 (ag.out (by first|trivial|rfl) _ v g zK aB oP.out.2.2.2) rT;clear q1 q2 q3 aa tU RS aW aH tS O3 zK aB Ey ag qd jR lY lU AZ jy oP nK jw c2 aj vO xt Cx aD ak rT ai;have po:=Uq.out.frozen;generalize aM { n with L:=l1 } v=Z6 at *;clear W9;go_wp2_with(with_reducible first|refine gS 174 rA.out ?_|refine gL 75 Iy.out ?_);refine Rr aO.out ?_;rintro w7 ⟨-,xw,aN⟩;obtain⟨a1,a2⟩:=DA.out w7 xw;obtain⟨aU,aA,aT⟩:=hh3 a1 a2 aN;clear a1 a2 xw aN DA aO Iy rA;go_wp2_with(with_reducible first|refine gL 91 aU.out ?_|refine gL 174 aA.out ?_);refine aT.out.mono ?_;rintro e w8 ⟨r,wy,rfl,s1,s2,s3⟩;obtain⟨HS,HL,HF⟩:=hh3 s1 s2 s3;clear s1 s2 s3 aU aA aT;go_wp2_with(with_reducible refine gS 38 HS.out ?_);exact aI (bA results72 rfl HL.out) rfl HF.out
end
section
open Go.RowKit
open Go.RowKit
open Go.RowKit
open Go.RowKit
variable{M:Nat->Nd}{w:World}{b:Nat}
end
section
variable{M:Nat->Nd}{w:World}{b:Nat}
theorem acM:(prog.info? 5).map (λi=>(i.zero,i.size,i.bytes))=some (some (.int .u8 0),1,1):=by kernel_rfl
theorem TB:(prog.info? 5).map (·.size)=some 1:=by kernel_rfl
theorem TC{T o n cap V:Nat}{v:Value}{z h:List Int}(U:bh w b (kS z).toArray T)(hs:Reads w v V (kS h))(aa:o+min h.length n<=z.length):
  ∃r w',(∀ty,(Builtin.copy_ #[29,29] ty #[.slice (some ⟨b,o,none⟩) n cap,v]).run prog w= .ok r w')/\bh w' b (kS (z.take o++h.take n++z.drop (o+min h.length n))).toArray T/\ay [b] w w':=by
 obtain⟨a,c,rfl,h1,h2,h3⟩:=hs;rw[fH] at *;by_cases W:h.length=0
 ·obtain rfl:=bo W
  refine⟨_,w,λty=>run_copy_none (P:= prog) w 29 29 ty 5 _ a n cap 0 c underlying29 TB (by simp),?_,ay.refl _ _⟩;rw[List.take_nil,br,cD,Nat.zero_min,dC,dt];exact U
 ·obtain⟨hg,off,rfl,hc⟩:=h3 (λe=>W (by have :=cP List.length e;rwa[fH,cD] at this))
  have J:(kS (h.take n)).length=min h.length n:=by rw[fH,aJ,Nat.min_comm]
  refine⟨_,_,λty=>run_copy_row (P:= prog) w 29 29 ty 5 b o n cap ⟨V,off,none⟩ h.length c (kS z).toArray T (kS (h.take n)) underlying29 TB U J ?_ ?_ ?_,?_,(ay.refl _ _).setRow (by simp) _⟩
  ·intro j u G
   have hj:j<min h.length n:=by
    have :=(List.getElem?_eq_some_iff.1 G).1;rwa[J] at this
   rw[add_plain,hc j (by omega),<-G];simp only[kS,bJ,bU];rw[aB]
  ·rw[bN,J,fH];omega
  ·intro u G
   simp only[kS,bH] at G;obtain⟨x,-,rfl⟩:=G;rfl
  ·have e:((kS z).toArray.toList.take o++kS (h.take n)++(kS z).toArray.toList.drop (o+(kS (h.take n)).length)).toArray=(kS (z.take o++h.take n++z.drop (o+min h.length n))).toArray:=by
    rw[J];simp[kS,List.map_drop]
   rw[e];exact kr U
end
end Go.Proofs.YtimcfdnbpkiniaaGreatDoor

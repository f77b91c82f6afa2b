/- Lemmas. -/
import Derived.Test.YtepbpdipenedhaaGreatDoorR28
set_option maxHeartbeats 4000000
set_option maxRecDepth 100000
namespace Go.Proofs.YtepbpdipenedhaaGreatDoor
open Go.Proofs.Tryz
open Go.RowKit
variable{w w':World}{b gp n:Nat}{B:List Int}{ps:List (Int×Int)}{T:List (bP×Value)}{own:Nat->List Nat}{ex l:List Nat}{M:Nat->Nd}{r:lX}{Z:Array Value}
end Go.Proofs.YtepbpdipenedhaaGreatDoor
namespace Go.Proofs.YtepbpdipenedhaaGreatDoor
open Go.Proofs.Tryz
open Go.RowKit
variable{w w':World}{b gp n:Nat}{B:List Int}{ps:List (Int×Int)}{T:List (bP×Value)}{own:Nat->List Nat}{ex l:List Nat}{M:Nat->Nd}{r:lX}{Z:Array Value}
def DV (w:World) (T:List (bP×Value)) (r:Nat×Int) (e:Ending) (w':World):Prop:=
 az [] w w'/\((r.2≠0/\e= .returned (.tuple #[.int .i64 0,.agg (aR cr (.slice none 0 0)),.int .i64 r.2]))\/
  (r.2=0/\∃v g,e= .returned (.tuple #[.int .i64 (r.1:Int),.agg (aR (nT T r.1) v),.int .i64 0])/\bC w' v g (nT T r.1).E/\w.heap.size<=g))
theorem Jl (h:wH w b gp B ps T own ex M)(hT:eo M){o:kM}{vp vq vd:Value}{g:Nat}(hP:jg w vp g o.P)(hs:∀s∈o.P,s.size<=9223372036854775807):
  Calls prog 119 #[.agg (dZ b o vp vq vd)] w (DV w T (cG M o.P)):=by
 obtain⟨W,hW⟩:∃W,(w.alloc (.cells (dZ b o vp vq vd) 79)).alloc (.cells (aR cr (.slice none 0 0)) 111)=W:=⟨_,rfl⟩;have dt:az [] w W:=by rw[<-hW];exact((az.refl _ _).alloc _).alloc _
 have IG:=au (XX (h.keep0 dt).shT (h.nd.snd hT).agree (hP.keep dt (by simp)) hs);have fW:=au dt;have oZ:bh W w.heap.size (dZ b o vp vq vd) 79 :=by rw[<-hW];exact(bh.new w _ _).alloc _
 have Qi:bh W (w.heap.size+1) (aR cr (.slice none 0 0)) 111 :=by rw[<-hW];exact bh.new2 w _ _ _ _
 have HJ:Hid (bh W w.heap.size (dZ b o vp vq vd) _/\bh W (w.heap.size+1) (aR cr (.slice none 0 0)) _):=⟨oZ,Qi⟩;have ot:Hid (W.heap.size=w.heap.size+2):=by show _=_;rw[<-hW,br,br]
 have c1:W.cell? ⟨w.heap.size,0,none⟩=some (.pointer (some ⟨b,0,none⟩)):=by rw[oZ.cell];rfl
 have c2:W.cell? ⟨w.heap.size,2,none⟩=some vp:=by rw[oZ.cell];rfl
 have aa:Hid (∀U n v,az [] W U->n.B.length=13->v.oneCell'=true->∃z,(storeVar 111 ⟨w.heap.size+1,0,none⟩ (.agg (aR n v))).run prog U= .ok () z/\(loadVar 111 ⟨w.heap.size+1,0,none⟩).run prog z= .ok (.agg (aR n v)) z/\az [w.heap.size+1] U z/\az [] w z):=λU n v V hB hv=>by
  obtain⟨z,t1,t2,t3⟩:=dc (n:=n) (v:=v) (HJ.out.2.keep V (by simp)) rfl hB hv;exact⟨z,t1,ct t2 hB,t3,(fW.out.trans' V).trans t3 (by intro y hy;rw[ay] at hy;omega)⟩
 have Od:Hid ((cG M o.P).2=0->(M (cG M o.P).1).K≠0):=λhe=>(rz hT he).1
 have HG:Hid (∀x,(M x).K≠0->∀U,az [] w U->Calls prog 97 #[.pointer (some ⟨b,0,none⟩),.int .i64 (x:Int)] U (λe w'=>Ym U (nT T x) e w'/\(nT T x).B.length=13)):=λx hx U V=>
  ((h.keep0 V).get hx).mono λe w' he=>⟨he,(h.nd.store hx).len⟩
 have tz:Hid (∀w' r,az [] w w'->(cG M o.P).2=r->r≠0->DV w T (cG M o.P) (.returned (.tuple #[.int .i64 0,.agg (aR cr (.slice none 0 0)),.int .i64 r])) w'):=λw' r V hr h0=>⟨V,.inl ⟨by rw[hr];exact h0,by rw[hr]⟩⟩
 have wQ:Hid (∀w' (x:Nat) v g,az [] w w'->cG M o.P=(x,0)->bC w' v g (nT T x).E->w.heap.size<=g->DV w T (cG M o.P) (.returned (.tuple #[.int .i64 (x:Int),.agg (aR (nT T x) v),.int .i64 0])) w'):=λw' x v g V hr hE hg=>by
  rw[hr];exact⟨V,.inr ⟨rfl,v,g,rfl,hE,hg⟩⟩
 have ub:=eA;clear h hT hP hs dt oZ Qi;generalize DV w T (cG M o.P)=Q at *;generalize cG M o.P=R at *;generalize af:aR cr (.slice none 0 0)=Z0 at *;have oz:=au af;generalize hJ:dZ b o vp vq vd=J at *;clear hJ af;obtain⟨x,ee⟩:=R
 dsimp only at *
 go_enter func119,ntmps119;go_wp2_with fail;refine IG.out.mono ?_;rintro e w1 ⟨rfl,G⟩;by_cases he:ee=0
 ·subst he
  have aj:=Od.out rfl;have ar:=au (HG.out x aj w1 (fW.out.trans' G));have JP:=au (λw' v g V hE hg=>wQ.out w' x v g V rfl hE hg);have c3:w1.cell? ⟨w.heap.size,0,none⟩=some (.pointer (some ⟨b,0,none⟩)):=(aO (G.block _ (by show w.heap.size<_;rw[ot.out];omega) (by simp))).trans c1;have iU:=au G;clear hW IG HG tz wQ Od aj G c1 c2 HJ;generalize nT T x=n at *;generalize (x:Int)=xi at *;go_wp2_with fail;refine ar.out.mono ?_;rintro e w3 ⟨⟨v,g,va,rfl,hE,hg,ac⟩,ae⟩;obtain⟨w4,q1,q2,q3⟩:=dc (n:=n) (v:=v) (bh.new w3 Z0 111) (by rw[<-oz.out];rfl) ae hE.one;have ax:=ac.size;have ak:=iU.out.size;rw[ot.out] at ak;have AW:az [] w3 w4:=((az.refl _ _).alloc _).trans q3 (by intro x hx;rw[ay] at hx;omega);obtain⟨w6,s1,s2,s3,s5⟩:=aa.out w4.drew n v ((iU.out.trans' (ac.trans' AW)).drew) ae hE.one;have vY:Hid (∀z,az [w.heap.size+1] w4 z->(loadVar 111 ⟨w3.heap.size,0,none⟩).run prog z= .ok (.agg (aR n v)) z):=λz hz=>ct (q2.keep hz (by simp;omega)) ae
  have wO:Hid (az [w.heap.size+1] w4 w6):=((az.refl [] w4).drew.mono (by simp)).trans' s3;have Od:Hid (az [w.heap.size+1] w4 w4.drew):=(az.refl [] w4).drew.mono (by simp);have HF:=au (JP.out w6 v g s5 ((hE.keep AW (by simp)).keep wO.out (λ_=>by rw[ay];omega)) (by have :=fW.out.size;have :=iU.out.size;omega));have vB:=au q1;have DG:=au s1;have SS:=au s2;clear q1 q2 q3 s1 s2 s3 s5 ac AW hE hg ax ak JP aa fW iU ar oz c3 ot;generalize aR n v=Zn at *;go_wp2_with(with_reducible refine gS 111 vB.out ?_);refine jX (S:=λU=>az [w.heap.size+1] w4 U) [0,1,2] [3,4,5] (l:=[_,_,_]) (tl:=[_,_,_]) (by kernel_rfl) (by kernel_rfl) (by kernel_rfl) (by kernel_rfl) rfl rfl rfl rfl rfl (λd _ _ _ _ h=>by cases d<;>exact h) (az.refl _ _).drew ?_;simp only[iz,iI,iJ];repeat (first
   |(refine cN.cons (.agg Zn) (YieldsIf.load rfl 111 _ rfl _ rfl λz hz=>vY.out _ hz) ?_;simp only[Act.put,ag,ah,ai])
   |(refine cN.cons ?_ (YieldsIf.val rfl ?h) ?_;(case h=>(intro z hz;clear hz;go_simp;rfl));simp only[Act.put,ag,ah,ai]))
  refine cN.done ?_;unfold gI;go_wp2_with fail;refine⟨Od.out,?_⟩;unfold gI;go_wp2_with(with_reducible refine gS 111 DG.out ?_);refine⟨wO.out,?_⟩;unfold gI;go_wp2_with fail;refine⟨wO.out,?_⟩;unfold gI;go_wp2_with fail;exact aL (qA results119 rfl rfl SS.out rfl) rfl HF.out
 ·obtain⟨w4,s1,s2,-,s5⟩:=aa.out w1 cr (.slice none 0 0) G rfl rfl
  have HF:=au (tz.out w4 ee s5 rfl he);have b1:(ee != 0)=true:=by simpa using he
  rw[oz.out] at s1 s2;have vB:=au s1;have av:=au s2;clear hW s1 s2 s5 G he IG HG tz wQ Od aa fW ot HJ oz c1 c2;go_wp2_with(with_reducible refine gS 111 vB.out ?_);exact aL (qA results119 rfl rfl av.out rfl) rfl HF.out
theorem Jm (h:wH w b gp B ps T own ex M)(hT:eo M){o:kM}{vp vq vd:Value}{g:Nat}(hP:jg w vp g o.P)(hs:∀s∈o.P,s.size<=9223372036854775807):
  Calls prog 105 #[.agg (dZ b o vp vq vd)] w (DV w T (fJ M o.P)):=by
 obtain⟨W,hW⟩:∃W,(w.alloc (.cells (dZ b o vp vq vd) 79)).alloc (.cells (aR cr (.slice none 0 0)) 111)=W:=⟨_,rfl⟩;have dt:az [] w W:=by rw[<-hW];exact((az.refl _ _).alloc _).alloc _
 have IG:=au (Jl (vq:=vq) (vd:=vd) (h.keep0 dt) hT (hP.keep dt (by simp)) hs);have fW:=au dt;have oZ:bh W w.heap.size (dZ b o vp vq vd) 79 :=by rw[<-hW];exact(bh.new w _ _).alloc _
 have Qi:bh W (w.heap.size+1) (aR cr (.slice none 0 0)) 111 :=by rw[<-hW];exact bh.new2 w _ _ _ _
 have HJ:Hid (bh W (w.heap.size+1) (aR cr (.slice none 0 0)) _):=Qi;have sx:=au (ny oZ);have ot:Hid (W.heap.size=w.heap.size+2):=by show _=_;rw[<-hW,br,br]
 have V:Hid (∀wx n v,az [] W wx->n.B.length=13->v.oneCell'=true->∃G,(storeVar 111 ⟨w.heap.size+1,0,none⟩ (.agg (aR n v))).run prog wx= .ok () G/\(loadVar 111 ⟨w.heap.size+1,0,none⟩).run prog G= .ok (.agg (aR n v)) G/\az [w.heap.size+1] wx G/\az [] w G):=λwx n v hk hB hv=>by
  obtain⟨G,t1,t2,t3⟩:=dc (n:=n) (v:=v) (HJ.out.keep hk (by simp)) rfl hB hv;exact⟨G,t1,ct t2 hB,t3,(fW.out.trans' hk).trans t3 (by intro y hy;rw[ay] at hy;omega)⟩
 have uL:Hid ((cG M o.P).2=0->(nT T (cG M o.P).1).B.length=13):=λhe=>(h.nd.store (rz hT he).1).len
 have sy:Hid ((nT T (cG M o.P).1).K=(M (cG M o.P).1).K):=h.nd.kind _;have tz:Hid (∀w' r,az [] w w'->(fJ M o.P).2=r->r≠0->DV w T (fJ M o.P) (.returned (.tuple #[.int .i64 0,.agg (aR cr (.slice none 0 0)),.int .i64 r])) w'):=λw' r hk hr h0=>⟨hk,.inl ⟨by rw[hr];exact h0,by rw[hr]⟩⟩
 have wQ:Hid (∀w' (x:Nat) v g,az [] w w'->fJ M o.P=(x,0)->bC w' v g (nT T x).E->w.heap.size<=g->DV w T (fJ M o.P) (.returned (.tuple #[.int .i64 (x:Int),.agg (aR (nT T x) v),.int .i64 0])) w'):=λw' x v g hk hr hE hg=>by
  rw[hr];exact⟨hk,.inr ⟨rfl,v,g,rfl,hE,hg⟩⟩
 have HV:Hid (fJ M o.P=if (cG M o.P).2=0/\(M (cG M o.P).1).K=2 then (0,5) else cG M o.P):=rfl;have ub:=eA;clear h hT hP hs dt oZ Qi;unfold DV at IG;generalize DV w T (fJ M o.P)=Q at *;generalize fJ M o.P=F at *;generalize cG M o.P=R at *;generalize af:aR cr (.slice none 0 0)=Z0 at *;have oz:=au af;generalize hJ:dZ b o vp vq vd=J at *;clear hJ af;obtain⟨x,ee⟩:=R
 dsimp only at *
 generalize hn:nT T x=n at *;go_enter func105,ntmps105;go_wp2_with(with_reducible refine gL 79 sx.out ?_);refine IG.out.mono ?_;rintro e w1 ⟨U,⟨he,rfl⟩|⟨rfl,v,g,rfl,hE,hg⟩⟩
 ·obtain⟨z,q1,q2,q3⟩:=dc (n:=cr) (v:= .slice none 0 0) (bh.new w1 Z0 111) (by rw[<-oz.out];rfl) rfl rfl
  have aa:=U.size;rw[ot.out] at aa;have iM:az [] w1 z:=((az.refl _ _).alloc _).trans q3 (by intro x hx;rw[ay] at hx;omega);obtain⟨w6,s1,s2,s3,s5⟩:=V.out z.drew cr (.slice none 0 0) ((U.trans' iM).drew) rfl rfl;have vY:Hid (∀G,az [w.heap.size+1] z G->(loadVar 111 ⟨w1.heap.size,0,none⟩).run prog G= .ok (.agg (aR cr (.slice none 0 0))) G):=λG hz=>ct (q2.keep hz (by simp;omega)) rfl
  have wO:Hid (az [w.heap.size+1] z w6):=((az.refl [] z).drew.mono (by simp)).trans' s3;have Od:Hid (az [w.heap.size+1] z z.drew):=(az.refl [] z).drew.mono (by simp);have HF:=au (tz.out w6 ee s5 (by rw[HV.out,aB (λh=>he h.1)]) he);rw[oz.out] at q1 s1 s2 vY;have vB:=au q1;have DG:=au s1;have SS:=au s2;have b1:(ee==0)=false:=by simpa using he
  clear hW q1 q2 q3 s1 s2 s3 s5 U iM he aa IG V fW oz ot HJ sx uL sy tz wQ HV;go_wp2_with(with_reducible refine gS 111 vB.out ?_);refine jX (S:=λwx=>az [w.heap.size+1] z wx) [0,1,2] [3,4,5] (l:=[_,_,_]) (tl:=[_,_,_]) (by kernel_rfl) (by kernel_rfl) (by kernel_rfl) (by kernel_rfl) rfl rfl rfl rfl rfl (λd _ _ _ _ h=>by cases d<;>exact h) (az.refl _ _).drew ?_;simp only[iz,iI,iJ];repeat (first
   |(refine cN.cons (.agg Z0) (YieldsIf.load rfl 111 _ rfl _ rfl λG hz=>vY.out _ hz) ?_;simp only[Act.put,ag,ah,ai])
   |(refine cN.cons ?_ (YieldsIf.val rfl ?h) ?_;(case h=>(intro G hz;clear hz;go_simp;rfl));simp only[Act.put,ag,ah,ai]))
  refine cN.done ?_;unfold gI;go_wp2_with fail;refine⟨Od.out,?_⟩;unfold gI;go_wp2_with(with_reducible refine gS 111 DG.out ?_);refine⟨wO.out,?_⟩;unfold gI;go_wp2_with fail;refine⟨wO.out,?_⟩;unfold gI;go_wp2_with fail;exact aL (qA results105 rfl rfl SS.out rfl) rfl HF.out
 ·have ac:=uL.out rfl
  obtain⟨z,q1,q2,q3⟩:=dc (n:=n) (v:=v) (bh.new w1 Z0 111) (by rw[<-oz.out];rfl) ac hE.one;have aa:=U.size;rw[ot.out] at aa;have iM:az [] w1 z:=((az.refl _ _).alloc _).trans q3 (by intro x hx;rw[ay] at hx;omega);have c1:z.cell? ⟨w1.heap.size,1,none⟩=some (.int .i64 n.K):=by rw[q2.cell];exact(iX v ac).f1
  have vB:=au q1;by_cases h2:n.K=2
  ·obtain⟨w6,s1,s2,-,s5⟩:=V.out z cr (.slice none 0 0) (U.trans' iM) rfl rfl
   have HF:=au (tz.out w6 5 s5 (by rw[HV.out,aC ⟨rfl,by rw[<-sy.out];exact h2⟩]) (by omega));rw[oz.out] at s1 s2;have DG:=au s1;have SS:=au s2;rw[h2] at c1;clear hW q1 q2 q3 s1 s2 s5 U iM aa IG V fW oz ot HJ sx uL sy tz wQ HV hE hg h2 ac;generalize aR n v=Zn at *;go_wp2_with(first|(with_reducible refine gS 111 vB.out ?_)|(with_reducible refine gS 111 DG.out ?_));exact aL (qA results105 rfl rfl SS.out rfl) rfl HF.out
  ·obtain⟨w6,s1,s2,s3,s5⟩:=V.out z.drew n v ((U.trans' iM).drew) ac hE.one
   have vY:Hid (∀G,az [w.heap.size+1] z G->(loadVar 111 ⟨w1.heap.size,0,none⟩).run prog G= .ok (.agg (aR n v)) G):=λG hz=>ct (q2.keep hz (by simp;omega)) ac
   have wO:Hid (az [w.heap.size+1] z w6):=((az.refl [] z).drew.mono (by simp)).trans' s3;have Od:Hid (az [w.heap.size+1] z z.drew):=(az.refl [] z).drew.mono (by simp);have ae:=wQ.out w6 x v g s5 (by rw[HV.out,aB (λh=>h2 (by rw[sy.out];exact h.2))]);rw[hn] at ae;have HF:=au (ae ((hE.keep iM (by simp)).keep wO.out (λ_=>by rw[ay];rw[ot.out] at hg;omega)) (by have :=fW.out.size;omega));have DG:=au s1;have SS:=au s2;have b2:(n.K==2)=false:=by simpa using h2
   clear hW q1 q2 q3 s1 s2 s3 s5 U iM aa IG V fW oz ot HJ sx uL sy tz wQ HV hE hg h2 ac ae hn;generalize aR n v=Zn at *;generalize n.K=nk at *;generalize (x:Int)=xi at *;go_wp2_with(first|(with_reducible refine gS 111 vB.out ?_));refine jX (S:=λwx=>az [w.heap.size+1] z wx) [0,1,2] [3,4,5] (l:=[_,_,_]) (tl:=[_,_,_]) (by kernel_rfl) (by kernel_rfl) (by kernel_rfl) (by kernel_rfl) rfl rfl rfl rfl rfl (λd _ _ _ _ h=>by cases d<;>exact h) (az.refl _ _).drew ?_;simp only[iz,iI,iJ];repeat (first
    |(refine cN.cons (.agg Zn) (YieldsIf.load rfl 111 _ rfl _ rfl λG hz=>vY.out _ hz) ?_;simp only[Act.put,ag,ah,ai])
    |(refine cN.cons ?_ (YieldsIf.val rfl ?h) ?_;(case h=>(intro G hz;clear hz;go_simp;rfl));simp only[Act.put,ag,ah,ai]))
   refine cN.done ?_;unfold gI;go_wp2_with fail;refine⟨Od.out,?_⟩;unfold gI;go_wp2_with(with_reducible refine gS 111 DG.out ?_);refine⟨wO.out,?_⟩;unfold gI;go_wp2_with fail;refine⟨wO.out,?_⟩;unfold gI;go_wp2_with fail;exact aL (qA results105 rfl rfl SS.out rfl) rfl HF.out
theorem Qj (M:Nat->Nd)(d:Nat)(E:List (ByteArray×Int))(x:Nat):sA M d E x=if x=d then { M d with E:=E } else M x:=rfl
theorem Yz (M:Nat->Nd)(i:Nat)(n:Nd)(x:Nat):ng M i n x=if x=i then n else M x:=rfl
theorem adS{d j:Nat}(h:j≠d)(E:List (ByteArray×Int)):ng (sA M d E) j (Nk (sA M d E j))=Eh M d j E:=by
 funext x
 unfold Eh Nk;by_cases e:x=j
 ·subst e
  simp only[Qj,Yz,if_true,aB h]
 ·simp only[Qj,Yz,aB e,aB (dK h)]
section
variable {X:List Int} {T:List (bP×Value)} {own:Nat->List Nat} {M:Nat->Nd}
theorem KF {d j:Nat}{nm:ByteArray}(J:(cz (M d).E nm).toNat=j)(h:j≠d){q1 q2:List (Int×Int)}{r:Int}(G:Goes X q1 [] (sA M d (lW (M d).E nm)) 100)(U:qZ (aA X q1) [] (sA M d (lW (M d).E nm)) j r q2):r=0/\Bi X (q1++q2) (K2 M d nm):=by
 obtain⟨V,z,-⟩:=U;rw[adS h] at z;refine⟨V,?_⟩;unfold K2;rw[J];exact(G.trans z).lands (by omega)
open Classical in
end
section
variable {X:List Int} {T:List (bP×Value)} {own:Nat->List Nat} {M:Nat->Nd}
theorem Nt {o:kM}(V:o.K=2\/o.K=3\/o.K=4)(U:(fJ M o.P).2≠0):(oV M o).2=fy (fJ M o.P).2:=by
 rw[Bj V];have z:fJ M o.P=if (cG M o.P).2=0/\(M (cG M o.P).1).K=2 then (0,5) else cG M o.P:=rfl
 unfold yX;by_cases G:(cG M o.P).2=0
 ·by_cases J:(M (cG M o.P).1).K=2
  ·rw[aC ⟨G,J⟩] at z
   rw[z,aB (by omega),aC J]
  ·rw[aB (λh=>J h.2)] at z
   rw[z] at U;exact absurd G U
 ·rw[aB (λh=>G h.1)] at z
  rw[z,aC G]
theorem su {o:kM}(J:o.K=2)(G:(fJ M o.P).2=0):oV M o=
  if o.O<0 then (M,fy 1) else if 832<o.O\/(832:Int)-o.O<o.D.length then (M,fy 8) else if o.D=[] then (M,jf) else
   (ng M (cG M o.P).1 { M (cG M o.P).1 with D:=sO (M (cG M o.P).1).D o.O.toNat o.D },{ jf with N:=(o.D.length:Int) }):=by
 obtain⟨U,z,-⟩:=El G;rw[Bj (.inl J)];unfold yX;rw[aB (by omega),aB z,aB (c:=o.K=3) (by omega),aB (c:=o.K=4) (by omega)];by_cases h:o.O<0
 ·rw[aC h,aC (.inl ⟨by omega,h⟩)]
 ·rw[aB h,aB (by omega)]
theorem Jn {o:kM}(z:o.K=3)(J:(fJ M o.P).2=0):oV M o=
  if o.O<0\/o.N<0 then (M,fy 1) else (M,{ jf with D:=((M (cG M o.P).1).D.drop o.O.toNat).take o.N.toNat }):=by
 obtain⟨U,G,-⟩:=El J;rw[Bj (.inr (.inl z))];unfold yX;rw[aB (by omega),aB G,aC (c:=o.K=3) z];by_cases h:o.O<0\/o.N<0
 ·rw[aC h,aC (by omega)]
 ·rw[aB h,aB (by omega)]
theorem UZ {o:kM}(z:o.K=9\/o.K=10)(h:(cG M o.P).2≠0):(oV M o).2=fy (cG M o.P).2:=by
 rw[Bk z];show A9 M o=_;unfold A9;rw[aC h]
end
section
variable {P:Program} {ops:Array Oper} {Q:Exit->Act->World->Prop} {md:Region.Mode} {S:World->Prop}
end
section
variable {P:Program} {ops:Array Oper} {Q:Exit->Act->World->Prop} {S:World->Prop}
theorem Hy {id:Nat}{a:Act}{w:World}{l l2:List Oper}{o:Oper}(hm:P.follows .mixedOrders=true)(o6:ops.toList=l++(o::l2))(ht:yJ .any ops l.length l.length=true)(V:yJ .any ops ops.size ops.size=true)(hQ:∀d v c a w,Q (.panic c) (Act.put a d v) w->Q (.panic c) a w)(hS:S w.drew)
  (U:Region.ready .any ops (df ops.size l.length)=[l.length]) (aa:Region.ready .any ops (df ops.size ops.size)=[])
  (h:aK P ops S (wpList P ops (aaF (λ_=>True) (λJ w'=>∃G:World->Prop,G w'/\aK P ops G (Q .normal) l2 J) Q) [o]) l a):(Code.region id ops true).wp P Q a w:=by
 have ae:ops.size=l.length+(l2.length+1):=by rw[<-dm,o6];simp
 refine jn hm ?_;rw[<-kj];refine mB (S:=λ_=>S) (F:=ops.size) (L:=l.length) _ _ _ ?_ _ hS;have z:∀k,ops[k]? =(l++(o::l2))[k]? :=λk=>by rw[<-o6,dw]
 refine Iy (m:=l.length) ht (aI _) (by omega) hQ (E:=λa=>∀w,S w->wpList P ops (aaF (λ_=>True) (λJ w'=>∃G:World->Prop,G w'/\aK P ops G (Q .normal) l2 J) Q) [o] a w) (λa h=> ?_) l 0 a (by simp) (by omega) (λk hk=>by rw[z,aX,aY hk]) (aK.toB _ _ h);have ho:ops[l.length]? =some o:=by rw[z,aQ (aI _),jH];rfl
 rw[show ops.size-l.length=l2.length+1 by omega];refine⟨λh0=>(by rw[U] at h0;cases h0),λi hi ac=> ?_,λ_ w hS=> ?_⟩
 ·rw[U,ay] at hi
  exact absurd hi ac
 ·refine wpOp_mono (λJ w' h'=> ?_) (AA ho (h w hS))
  obtain⟨-,G,W,h2⟩:=h';rw[lO];refine mB (S:=λ_=>G) (F:=ops.size) (L:=ops.size) _ _ _ ?_ _ W;have :=Iy (md:= .any) (m:=ops.size) V (aI _) (aI _) hQ (E:=λa=>∀w,G w->Q .normal a w) (λa h=>by rw[jH];exact⟨aa,h⟩) l2 (l.length+1) J (by omega) (aI _) (λk hk=>by
   rw[z,aQ (by omega),show l.length+1+k-l.length=k+1 by omega,cX]) (aK.toB _ _ h2)
  rwa[show ops.size-(l.length+1)=l2.length by omega] at this
end
def uG (n:Nat) (w:World) (r:lX) (Z:Array Value):Prop:=∃vd h,Z=GH r vd h/\(∃g,Reads w vd g (jL r.D)/\(r.D≠[]->n<=g))/\∃g,bC w h g r.S/\(r.S≠[]->n<=g)
theorem uG.at(h:uG n w r Z):Hw w r Z:=by
 obtain⟨vd,U,z,⟨g,J,-⟩,G,V,-⟩:=h;exact⟨vd,U,z,⟨g,J⟩,G,V⟩
theorem uG.mono{m:Nat}(h:uG n w r Z)(z:m<=n):uG m w r Z:=by
 obtain⟨vd,V,G,⟨g,U,a⟩,J,W,c⟩:=h;exact⟨vd,V,G,⟨g,U,λh=>cD z (a h)⟩,J,W,λh=>cD z (c h)⟩
theorem uG.keep(h:uG n w r Z)(J:az l w w')(hl:∀x∈l,x<n):uG n w' r Z:=by
 obtain⟨vd,ve,h1,⟨g,W,a⟩,U,h3,c⟩:=h;refine⟨vd,ve,h1,⟨g,?_,a⟩,U,h3.keep J (λG z=> ?_),c⟩
 ·by_cases V:r.D=[]
  ·obtain⟨ad,cap,e,b1,b2,-⟩:=W
   exact⟨ad,cap,e,b1,b2,λG=>absurd (by rw[V];rfl) G⟩
  ·exact W.keep J (λz=>by have :=hl g z;have :=a V;omega)
 ·have :=hl U z
  have :=c (λe=>G (by rw[e];rfl));omega
def RsP (w:World) (r:lX) (Z:Array Value):Prop:=∀n,uG n w r Z
theorem RsP.plain(w:World){r:lX}(z:r.D=[])(G:r.S=[]):RsP w r (GH r (.slice none 0 0) (.slice none 0 0)):=λn=>⟨_,_,rfl,⟨0,by rw[z];exact nK w 0,λh=>absurd z h⟩,0,by rw[G];exact bC.nil w 0,λh=>absurd G h⟩
def jA (w:World) (b z:Nat) (B:List Int) (R:lX->List (Int×Int)->Prop) (e:Ending) (w':World):Prop:=
 ∃r Z qs h,e= .returned (.agg Z)/\uG w.heap.size w' r Z/\(h=z\/(w.heap.size<=h/\h<w'.heap.size))/\eO w' b h B qs/\az [b,z] w w'/\qs.length<=100000/\R r qs
theorem CD{W z:World}{g T:Nat}{G:Array Value}(hb:bh W g G T)(hc:G.size=7)(hk:az l W z)(hg:g∉l)(hD:r.D=[])(hS:r.S=[])(hZ:Z=GH r (.slice none 0 0) (.slice none 0 0)):
  ∃h,(storeVar 34 ⟨g,0,none⟩ (.agg Z)).run prog z= .ok () h/\(loadVar 34 ⟨g,0,none⟩).run prog h= .ok (.agg Z) h/\RsP h r Z/\az [g] z h:=by
 have hz:Hw z r Z:=by rw[hZ];exact Yl z hD hS
 have J:∀wz,RsP wz r Z:=λwz=>by rw[hZ];exact RsP.plain wz hD hS
 have U:=hb.keep hk hg;have h1:=hz.one;have V:=hz.size;obtain⟨zl⟩:=Z;simp only[bN] at V;obtain⟨h,s1,s2,s3⟩:=bB (P:= prog) (ty:= 34) (cs:=zl) (by rw[V];exact Ek) U (by rw[hc,V]) h1;exact⟨h,s1,Bg s2 (J h 0).at,J h,s3⟩
theorem vT (w:World)(J h:Array Value):∃W,(w.alloc (.cells J 79)).alloc (.cells h 34)=W/\az [] w W/\bh W w.heap.size J 79/\bh W (w.heap.size+1) h 34/\W.heap.size=w.heap.size+2:=
 ⟨_,rfl,((az.refl _ _).alloc _).alloc _,(bh.new w _ _).alloc _,bh.new2 w _ _ _ _,by rw[br,br]⟩
section
variable {w w':World} {b gp gG:Nat} {B:List Int} {ps qs:List (Int×Int)} {T T':List (bP×Value)} {own cM:Nat->List Nat} {ex ex':List Nat} {M M':Nat->Nd}
theorem jA.none{R:lX->List (Int×Int)->Prop}{r:lX}{Z:Array Value}(h:wH w b gp B [] T own ex M)(z:az [] w w')(G:RsP w' r Z)(J:R r []):jA w b gp B R (.returned (.agg Z)) w':=
 ⟨r,Z,[],gp,rfl,G _,.inl rfl,h.sh.keep z (by simp) (by simp),z.mono (by simp),by simp,J⟩
theorem jA.noneAt{R:lX->List (Int×Int)->Prop}{r:lX}{Z:Array Value}(h:wH w b gp B [] T own ex M)(z:az [] w w')(G:uG w.heap.size w' r Z)(J:R r []):jA w b gp B R (.returned (.agg Z)) w':=
 ⟨r,Z,[],gp,rfl,G,.inl rfl,h.sh.keep z (by simp) (by simp),z.mono (by simp),by simp,J⟩
theorem jA.some{R:lX->List (Int×Int)->Prop}{r:lX}{Z:Array Value}{m:Nat}{Rq:Int->List (Int×Int)->Prop}{wa G wc:World}{x:Int}(V:b<w.heap.size/\gp<w.heap.size)(z:az [] w wa)(ac:w.heap.size+2<=wa.heap.size)(hp:cO wa b gp B [] m Rq (.returned (.int .i64 x)) G)(hm:m<=100000)(h:az [w.heap.size+1] G wc)(U:RsP wc r Z)(J:∀qs,Rq x qs->R r qs):jA w b gp B R (.returned (.agg Z)) wc:=by
 obtain⟨x',qs,gG,he,h1,h2,h3,h4,h5⟩:=hp;cases he;have aa:=h.size;refine⟨r,Z,qs,gG,rfl,U _,by omega,h2.keep h (by rw[ay];omega) (by rw[ay];omega),((z.mono (by simp)).trans' h3).trans h (λy W=>by rw[ay] at W;omega),by omega,J _ h5⟩
end
structure zS (w:World) (o:kM) (vp vq vd:Value):Prop where
 p:∃g,jg w vp g o.P
 ps:∀s∈o.P,s.size<=9223372036854775807
 q:∃g,jg w vq g o.Q
 qs:∀s∈o.Q,s.size<=9223372036854775807
 d:∃g,Reads w vd g (jL o.D)
 ds:∀x∈o.D,0<=x/\x<256
theorem zS.keep{o:kM}{G vq vd:Value}(h:zS w o G vq vd)(z:az [] w w'):zS w' o G vq vd:=by
 obtain⟨⟨U,J⟩,W,⟨V,h3⟩,h4,⟨g5,h5⟩,h6⟩:=h;exact⟨⟨U,J.keep z (by simp)⟩,W,⟨V,h3.keep z (by simp)⟩,h4,⟨g5,h5.keep z (by simp)⟩,h6⟩
theorem lI{P:Program}{f:FuncId}{fn:Func}(U:P.funcs[f]? =some fn)(G:(fn.name == "runtime.NumGoroutine")=false)(h:fn.body.isNone=false)(args:Array Value)(w:World):(callFunc f args).run P w= .ok (.enter f args) w:=by
 have z:fn.name≠ "runtime.NumGoroutine" :=by simpa using G
 have J:fn.body≠none:=λe=>by rw[e] at h;cases h
 unfold callFunc;simp[go_sem,U,z,J]
def p7 (M:Nat->Nd) (o:kM):Prop:=∀(w:World) (b G:Nat) (B:List Int) (T:List (bP×Value)) (own:Nat->List Nat) (h vq vd:Value),wH w b G B [] T own [] M->eo M->zS w o h vq vd->
 Calls prog 27 #[.agg (dZ b o h vq vd)] w λe w'=>∃fn,e= .returned (.func (.func fn) #[.agg (dZ b o h vq vd)] #[])/\az [] w w'/\(∀J,(callFunc fn #[.agg (dZ b o h vq vd)]).run prog J= .ok (.enter fn #[.agg (dZ b o h vq vd)]) J)/\∀z,az [] w z->Calls prog fn #[.agg (dZ b o h vq vd)] z (jA z b G B (pQ B M o))
theorem Nu{gn gl gf:Nat}{s:j0}(h:fH w b gn gl gf s)(hp:∀k:Nat,k<s.now.length->s.refusal (k:Int)=0/\s.load (k:Int)=s.now.getD k 0):
  Calls prog 25 #[.pointer (some ⟨b,0,none⟩)] w (qw w s.now):=by
 have H:=au h;have G:=au hp;have hm:=h.n9;have AO:=au (VL h);generalize aa:s.now=xs at *;obtain⟨m,z⟩:∃m,xs.length=m:=⟨_,rfl⟩;rw[z] at AO G hm;have af:=Ac m (by omega) (m:Int) rfl m (.inr rfl) w;have V:=Gj w m (by omega);rw[show List.replicate m (0:Int)=dW 0 xs 0 by rw[kN,z]] at V;have V:=au V;have U:=au z;generalize madeCells #[Value.int .u64 0] m=mc at *;clear h hp aa z;go_enter func25,ntmps25;go_wp2_with(go_at_call 46;refine AO.out.mono ?_;rintro e w' ⟨rfl,rfl⟩);go_loopg [5,6,7,15] m (λgh s5 s6 s7 s15 wx=>∃k:Nat,k+gh=m/\s15= .int .i64 (k:Int)/\
  Hid (fp wx (.slice (some ⟨w.heap.size,0,none⟩) m m) w.heap.size 56 1 m (aW (dW 0 xs k))/\az [] w wx))
 case atStart=>exact⟨0,by omega,rfl,V.out,(az.refl _ _).alloc _⟩
 case round=>
  obtain⟨k,hk,rfl,J⟩:=hrel;cases gk with
  |zero=>
   obtain rfl:k=m:=by omega
   have ac:¬(k:Int)<(k:Int):=by omega
   have ae:Hid (qw w xs (.returned (.tuple #[.slice (some ⟨w.heap.size,0,none⟩) k k,.int .i64 0])) wr):=by
    obtain⟨ho,fK⟩:=J.out;have e:dW 0 xs k=xs:=by
     have :=lL (0:Int) xs;rwa[U.out] at this
    rw[e] at ho;exact⟨_,_,rfl,ho.reads,aI _,fK⟩
   go_wp2_with fail;go_ret2;exact ae.out
  |succ gg=>
   have ac:(k:Int)<(m:Int):=by omega
   have hL:=QJ (H.out.keep J.out.2 (by simp) (by simp)) (k:Int);rw[(G.out k (by omega)).1,(G.out k (by omega)).2] at hL;have HL:=au hL;have hl:=kT (0:Int) xs k (by rw[U.out];omega);rw[U.out] at hl;obtain⟨-,-,hc,hf⟩:=J.out.1.cell (by omega);have d0:=(hc k (by omega)).trans (dA (l:=dW 0 xs k) (by omega));have f0:=hf k;have HE:=au (kO (0:Int) xs k (by rw[U.out];omega) (xs.getD k 0) (by simp[show k<xs.length by rw[U.out];omega]));generalize (dW 0 xs k).getD k 0=o1 at *;have W:=J.out.1.set k (.int .u64 (xs.getD k 0));rw[lT] at W;have W:=au W;have iZ:=au J.out.2;generalize xs.getD k 0=x at *;clear hc hf hl J hL;go_wp2_with(go_at_call 52;refine HL.out.mono ?_;rintro e w' ⟨rfl,rfl⟩);go_roundg gg;case measure=>omega
   case rel=>
    refine⟨k+1,by omega,by go_num,?_,iZ.out.setCell (.inr (aI _)) _⟩;rw[<-HE.out];exact W.out
def abL (w:World) (f b:Nat):Prop:=bh w f #[.pointer (some ⟨b,0,none⟩)] 75
theorem Nv (X:List Int)(k:Nat)(hx:X.length=3128)(z:k<3128)(w:World):(Instr.index 116 (.agg (aW X).toArray) (.int .i64 (k:Int))).run prog w= .ok (.int .u64 (X.getD k 0)) w:=by
 have V:=dQ (P:= prog) underlying116;have U:=dQ (P:= prog) underlying56;obtain⟨i0,J,G,h,aa⟩:=cP Tryz.info_u64;have hc:(aW X)[k]? =some (.int .u64 (X.getD k 0)):=dA (by omega);have W:(0:Int)<=(k:Int):=by omega
 generalize X.getD k 0=x at *;simp[Instr.index,asIntOf,V,W,z,sizeOf,typeInfo,J,h,part,isAgg,U,hc]
theorem Nw{X:List Int}{us:List (Int×Int)}(h:kp w b gp B X us):
  Calls prog 29 #[.pointer (some ⟨b,0,none⟩)] w (l6 w (cV B X 3128)):=by
 obtain⟨i0,hi,ac,ag,ah⟩:=cP Tryz.info_pair;have H:=au h;have ae:=au h.lx;have ak:=h.lt;obtain⟨lb,lx,vp,h1,h2,h3⟩:=h;have HL:=au (EA h1 lb lx);clear lb lx h1 h2 h3 vp;have af:=au (λ(k:Nat) (hk:k<3128)=>Nv X k ae.out hk);generalize (aW X).toArray=Y at *;go_enter func29,ntmps29;go_wp2_with(with_reducible refine gL 116 HL.out ?_);clear HL;go_loopg [3,10] 3128 (λgh s3 Sq wx=>∃k:Nat,k+gh=3128/\Sq= .int .i64 (k:Int)/\
  Hid (wx.ownsRow w.heap.size 58 2 s3 (cV B X k).length (je (cV B X k))/\az [] w wx))
 case atStart=>exact⟨0,by omega,rfl,⟨rfl,.inl ⟨rfl,rfl⟩⟩,az.refl _ _⟩
 case round=>
  obtain⟨k,hk,rfl,HR⟩:=hrel;cases gk with
  |zero=>
   obtain rfl:k=3128:=by omega
   have HM:Hid (l6 w (cV B X 3128) (.returned u3) wr):=by
    obtain⟨hr,V⟩:=HR.out;obtain⟨g',ho,hb⟩:=fp.of_row hr;by_cases e:(cV B X 3128).length=0
    ·exact l6.mk (ho.anyG e w.heap.size) rfl (aI _) V
    ·exact l6.mk ho rfl (hb e).1 V
   clear hk;go_wp2_with fail;go_ret;exact HM.out
  |succ gg=>
   have aa:k<3128:=by omega
   have ar:(k:Int)<3128:=by omega
   have dt:(0:Int)<=(k:Int):=by omega
   obtain⟨U,V⟩:=HR.out;have c0:=(H.out.keep V (by simp) (by simp)).cell0 (i:=k) aa;have Bx:=af.out k aa;have aj:=Ow B X k;have ai:=V.size;have G:=au U;have iZ:=au V;clear U V HR;by_cases W:X.getD k 0=B.getD k 0
   ·have HD:=au (CO B X k W)
    have e1:(X.getD k 0 != B.getD k 0)=false:=by simpa using W
    clear W;generalize X.getD k 0=x at *;generalize B.getD k 0=y at *;go_wp2_with fail;go_roundg gg;case measure=>omega
    case rel=>exact⟨k+1,by omega,by go_num,by rw[HD.out];exact G.out,iZ.out⟩
   ·have HD:=au (Ov B X k W)
    have e1:(X.getD k 0 != B.getD k 0)=true:=by simpa using W
    clear W;generalize X.getD k 0=x at *;generalize B.getD k 0=y at *;go_wp2_with(at_builtin;refine dO _ rfl _ _ 54 rfl w.heap.size 58 i0 (.agg #[.int .i64 0,.int .u64 0]) 2 16 underlying54 hi ac ag ah rfl (by decide) u3 (cV B X k).length _ rfl (G.out.alloc _) ⟨wr.heap.size,0,none⟩ 1 1 [.int .i64 (k:Int),.int .u64 x] rfl rfl ?c1 ?c2 (by unfold maxLen;omega) (by omega) (by simp;omega) ?_);case c1=>exact jP _ [_,_] _ _ rfl
    case c2=>simp[Value.oneCell']
    intro v' w1 z J _;have Dv:=au z;have iU:=au ((iZ.out.alloc _).grown J (cZ G.out));clear z J;go_wp2_with fail;go_roundg gg;case measure=>omega
    case rel=>
     refine⟨k+1,by omega,by go_num,?_,iU.out⟩;have :=Dv.out;rw[HD.out,aD,sU];exact this
theorem Qk{z:Nat}(h:eO w b z B ps):
  Calls prog 29 #[.pointer (some ⟨b,0,none⟩)] w (l6 w (cV B (aA B ps) 3128)):=Nw h.raw
end Go.Proofs.YtepbpdipenedhaaGreatDoor

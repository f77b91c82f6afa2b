/-
  Proved: TopMount returns true for every list of ops, every list of pairs and either flag, and leaves all that was there as it was. No condition but that math/bits' table holds what the program's text lays, which the card ties.
-/
import Derived.Test.YtimcfdnbpkiniaaGreatDoorM33
import Derived.Test.YtimcfdnbpkiniaaGreatDoorTie
import Derived.Test.YtimcfdnbpkiniaaGreatDoorCards
import Derived.ChangeOld
import Derived.SevenTiedAt
namespace Go.Proofs.YtimcfdnbpkiniaaGreatDoor.topMount
open Go.ChangeShapes Go.WideShapes Go.ChangeAt Go.RowKit
theorem own:ownKnob Tryz.prog.godebug=none:=by kernel_rfl
theorem laidOut:laidOutB Tryz.prog=true:=by kernel_rfl
set_option maxRecDepth 100000 in
theorem lifted (os:Os) (G:os.Started) (H:Type) (enc:TypeId×Value→H):
  ReturnsInHanded {} Tryz.checked os 6 .any (λw args=>(Rows.topMountSpec.pre enc Tryz.prog Tryz.f6 [] false w args∧laidMetH Tryz.prog [("math/bits.deBruijn64tab",Rows.laid_math_bits_deBruijn64tab)] w)∧sizedMet enc Tryz.prog Tryz.f6 (OpenSpec.ofChange Rows.topMountSpec) false w args)
   (Rows.topMountSpec.post enc Tryz.prog Tryz.f6 false true false false):=by
 refine returnsInHanded_of_change_and (C:= Tryz.checked) (X:=λw _=>laidMetH Tryz.prog [("math/bits.deBruijn64tab",Rows.laid_math_bits_deBruijn64tab)] w) (λ_ _ _ hh h=>h.of_heap hh) own G (by kernel_rfl) Tryz.func6
  (ChangeSpec.witness_shaped (enc:=enc) (C:= Tryz.checked) (os:=os) (X:=λw _=>laidMetH Tryz.prog [("math/bits.deBruijn64tab",Rows.laid_math_bits_deBruijn64tab)] w) false (World.doorLaid Tryz.prog 400 os) #[.slice none 0 0,.slice none 0 0,.bool false] 8 rfl (World.shaped_of_RefB (by kernel_rfl) (by kernel_rfl)) (by kernel_rfl) (by kernel_rfl) (by kernel_rfl) (aaQ os _)) ?_
 intro W ae args ds gs af V hW _ _ hL _;have z:∀(j:Nat) t v,Tryz.f6.params[j]? =some t→args[j]? =some v→Value.okWide Tryz.prog W .any ae t v:=V;have aj:=hW;obtain⟨p,q,aa,hV,rfl,_,_⟩:=hW;have hA:DataW.TrodAll enc Tryz.prog W 0 (λ_=>true) true Tryz.f6.params.toList args.toList ds p:=aa;rw[Tryz.params6] at hA z;obtain⟨v0,aB,d0,aC,p0,q0,ay,rfl,rfl,h0,r0⟩:=trodAll_cons hA;obtain⟨v1,az,d1,aD,p1,q1,rfl,rfl,rfl,h1,r1⟩:=trodAll_cons r0;obtain⟨v2,aF,d2,aA,p2,q2,rfl,rfl,rfl,h2,r2⟩:=trodAll_cons r1;obtain⟨rfl,rfl,rfl⟩:=trodAll_nil r2;obtain rfl:args= #[v0,v1,v2]:=by cases args;simp_all
 obtain⟨rfl,rfl⟩:=trodVars_none hV;have av:∀x∈p0,x.block<W.heap.size:=by obtain⟨m,J⟩:=h0;exact DataW.trod_lt m _ _ _ J
 have ax:∀x∈p1,x.block<W.heap.size:=by obtain⟨m,J⟩:=h1;exact DataW.trod_lt m _ _ _ J
 have ak:∀x∈p2,x.block<W.heap.size:=by obtain⟨m,J⟩:=h2;exact DataW.trod_lt m _ _ _ J
 have k0:=h0;have k1:=h1;have k2:=h2;obtain⟨a0,ah,ar,rfl⟩:=okWide_slice Tryz.underlying22 (z 0 22 v0 rfl rfl);obtain⟨g,l,hP⟩:∃g l,xb W (.slice a0 ah ar) g l:=by
  obtain⟨m,J⟩:=h0;obtain⟨v,g,l,hv,hr⟩:=WS J;simp[Value.cells] at hv;subst hv;exact⟨g,l,hr⟩
 obtain⟨a1,ai,au,rfl⟩:=okWide_slice Tryz.underlying80 (z 1 80 v1 rfl rfl);obtain⟨gb,ps,hB,hu⟩:∃gb ps,lQ W (.slice a1 ai au) gb ps∧∀k,0≤l9 ps k∧l9 ps k<18446744073709551616:=by
  obtain⟨m,J⟩:=h1;obtain⟨v,g,ps,hv,hr,hk⟩:=Sa J;simp[Value.cells] at hv;subst hv;exact⟨g,ps,hr,λk=>by
   unfold l9;rw[List.getD_eq_getElem?_getD];by_cases ac:k<ps.length
   ·rw[List.getElem?_eq_getElem ac,Option.getD_some]
    have :=(hk _ (List.getElem_mem ac)).2;omega
   ·rw[List.getElem?_eq_none (by omega)]
    simp⟩
 obtain⟨x2,rfl,_,_⟩:=open_bool Tryz.underlying4 (z 2 4 v2 rfl rfl) h2;clear aa V;refine(Py (PA hL) hP hB hu x2).mono λe W' ⟨he,ag⟩=> ?_
 have U:Below W.heap.size W W':=ag.below (Nat.le_refl _) (by simp);subst he;exact⟨_,rfl,_,_,_,[],_,[],aj,trodAll_mk1 (shut_bool Tryz.underlying4 _),trodAll_cons_mk (Below.trod laidOut (by kernel_rfl) (of_decide_eq_true (by kernel_rfl)) k0 U av) (trodAll_cons_mk (Below.trod laidOut (by kernel_rfl) (of_decide_eq_true (by kernel_rfl)) k1 U ax) (trodAll_cons_mk (Below.trod laidOut (by kernel_rfl) (of_decide_eq_true (by kernel_rfl)) k2 U ak) trodAll_mk0)),rfl,U.frame _,λh=>by cases h⟩
theorem over:Rows.topMountRow.holds Tryz.pinned (OpenSpec.ofChange Rows.topMountSpec):=
 OpenClaim.holds_of_wide 6 Tryz.f6 rfl rfl rfl rfl rfl rfl rfl ⟨rfl,rfl,rfl,rfl,rfl⟩ rfl rfl rfl rfl rfl (by kernel_rfl) Tryz.func6 (by kernel_rfl)
  (of_decide_eq_true (by kernel_rfl)) (by unfold Func.isWrapper;first|(rw[if_pos (by decide+kernel)];kernel_rfl)|(rw[if_neg (by decide+kernel)];exact⟨rfl,rfl⟩))
  (λos h H enc _=>lifted os h H enc)
theorem proved:Rows.TopMountCardSaid:=
 Claim7.holds_tied_plain_at .later [] [.data] true _ false
  over (λ_ h=>by cases h) (by kernel_rfl) (λ_ h=>by cases h) topMount_row_tie rfl ⟨rfl,rfl⟩ (by kernel_rfl) rfl
  (λf fn U G=>by
   obtain rfl:f= 6 :=Option.some.inj ((show Tryz.prog.funcNamed "imago/imagotop.TopMount" =some 6 by kernel_rfl).symm.trans U) |>.symm;obtain rfl:fn= Tryz.f6 :=(Option.some.inj (Tryz.func6.symm.trans G)).symm;exact⟨by kernel_rfl,λj t J=>by
    rw[Tryz.params6] at J;have V:t∈[22,80,4]:=by simpa using Array.mem_of_getElem? J
    have z:([22,80,4].all λu=> !Tryz.prog.wantsStandIn u)=true:=by kernel_rfl
    exact(show Tryz.prog.wantsStandIn t=false by simpa using List.all_eq_true.1 z t V)⟩)
  (by kernel_rfl)
#print axioms proved
end Go.Proofs.YtimcfdnbpkiniaaGreatDoor.topMount

/-
  Proved: TopUnseen returns true for every list of ops, and leaves all that was there as it was. No condition but that math/bits' table holds what the program's text lays, which the card ties.
-/
import Derived.Test.YtimcfdnbpkiniaaGreatDoorM32
import Derived.Test.YtimcfdnbpkiniaaGreatDoorM33
import Derived.Test.YtimcfdnbpkiniaaGreatDoorTie
import Derived.Test.YtimcfdnbpkiniaaGreatDoorCards
import Derived.ChangeOld
import Derived.SevenTiedAt
namespace Go.Proofs.YtimcfdnbpkiniaaGreatDoor.topUnseen
open Go.ChangeShapes Go.WideShapes Go.ChangeAt Go.RowKit
theorem own:ownKnob Tryz.prog.godebug=none:=by kernel_rfl
theorem laidOut:laidOutB Tryz.prog=true:=by kernel_rfl
set_option maxRecDepth 100000 in
theorem lifted (os:Os) (z:os.Started) (H:Type) (enc:TypeId×Value→H):
  ReturnsInHanded {} Tryz.checked os 5 .any (λw args=>(Rows.topUnseenSpec.pre enc Tryz.prog Tryz.f5 [] false w args∧laidMetH Tryz.prog [("math/bits.deBruijn64tab",Rows.laid_math_bits_deBruijn64tab)] w)∧sizedMet enc Tryz.prog Tryz.f5 (OpenSpec.ofChange Rows.topUnseenSpec) false w args)
   (Rows.topUnseenSpec.post enc Tryz.prog Tryz.f5 false true false false):=by
 refine returnsInHanded_of_change_and (C:= Tryz.checked) (X:=λw _=>laidMetH Tryz.prog [("math/bits.deBruijn64tab",Rows.laid_math_bits_deBruijn64tab)] w) (λ_ _ _ hh h=>h.of_heap hh) own z (by kernel_rfl) Tryz.func5
  (ChangeSpec.witness_shaped (enc:=enc) (C:= Tryz.checked) (os:=os) (X:=λw _=>laidMetH Tryz.prog [("math/bits.deBruijn64tab",Rows.laid_math_bits_deBruijn64tab)] w) false (World.doorLaid Tryz.prog 400 os) #[.slice none 0 0] 8 rfl (World.shaped_of_RefB (by kernel_rfl) (by kernel_rfl)) (by kernel_rfl) (by kernel_rfl) (by kernel_rfl) (aa2 os _)) ?_
 intro W V args ds gs ac U hW _ _ hL _;have G:∀(j:Nat) t v,Tryz.f5.params[j]? =some t→args[j]? =some v→Value.okWide Tryz.prog W .any V t v:=U;have af:=hW;obtain⟨p,q,aa,hV,rfl,_,_⟩:=hW;have hA:DataW.TrodAll enc Tryz.prog W 0 (λ_=>true) true Tryz.f5.params.toList args.toList ds p:=aa;rw[Tryz.params5] at hA G;obtain⟨v0,ak,d0,ar,p0,q0,ah,rfl,rfl,h0,r0⟩:=trodAll_cons hA;obtain⟨rfl,rfl,rfl⟩:=trodAll_nil r0;obtain rfl:args= #[v0]:=by cases args;simp_all
 obtain⟨rfl,rfl⟩:=trodVars_none hV;have ag:∀x∈p0,x.block<W.heap.size:=by obtain⟨m,hm⟩:=h0;exact DataW.trod_lt m _ _ _ hm
 have k0:=h0;obtain⟨a0,ai,aj,rfl⟩:=okWide_slice Tryz.underlying22 (G 0 22 v0 rfl rfl);obtain⟨g,l,hP⟩:∃g l,wY W (.slice a0 ai aj) g l:=by
  obtain⟨m,hm⟩:=h0;obtain⟨v,g,l,hv,hr⟩:=WO hm;simp[Value.cells] at hv;subst hv;exact⟨g,l,hr⟩
 clear aa U;refine(L4 (Pv hL) hP).mono λe W' ⟨he,ae⟩=> ?_
 have J:Below W.heap.size W W':=ae.below (Nat.le_refl _) (by simp);subst he;exact⟨_,rfl,_,_,_,[],_,[],af,trodAll_mk1 (shut_bool Tryz.underlying4 _),trodAll_cons_mk (Below.trod laidOut (by kernel_rfl) (of_decide_eq_true (by kernel_rfl)) k0 J ag) trodAll_mk0,rfl,J.frame _,λh=>by cases h⟩
theorem over:Rows.topUnseenRow.holds Tryz.pinned (OpenSpec.ofChange Rows.topUnseenSpec):=
 OpenClaim.holds_of_wide 5 Tryz.f5 rfl rfl rfl rfl rfl rfl rfl ⟨rfl,rfl,rfl,rfl,rfl⟩ rfl rfl rfl rfl rfl (by kernel_rfl) Tryz.func5 (by kernel_rfl)
  (of_decide_eq_true (by kernel_rfl)) (by unfold Func.isWrapper;first|(rw[if_pos (by decide+kernel)];kernel_rfl)|(rw[if_neg (by decide+kernel)];exact⟨rfl,rfl⟩))
  (λos h H enc _=>lifted os h H enc)
theorem proved:Rows.TopUnseenCardSaid:=
 Claim7.holds_tied_plain_at .later [] [.data] true _ false
  over (λ_ h=>by cases h) (by kernel_rfl) (λ_ h=>by cases h) topUnseen_row_tie rfl ⟨rfl,rfl⟩ (by kernel_rfl) rfl
  (λf fn U G=>by
   obtain rfl:f= 5 :=Option.some.inj ((show Tryz.prog.funcNamed "imago/imagotop.TopUnseen" =some 5 by kernel_rfl).symm.trans U) |>.symm;obtain rfl:fn= Tryz.f5 :=(Option.some.inj (Tryz.func5.symm.trans G)).symm;exact⟨by kernel_rfl,λj t J=>by
    rw[Tryz.params5] at J;have V:t∈[22]:=by simpa using Array.mem_of_getElem? J
    have z:([22].all λu=> !Tryz.prog.wantsStandIn u)=true:=by kernel_rfl
    exact(show Tryz.prog.wantsStandIn t=false by simpa using List.all_eq_true.1 z t V)⟩)
  (by kernel_rfl)
#print axioms proved
end Go.Proofs.YtimcfdnbpkiniaaGreatDoor.topUnseen

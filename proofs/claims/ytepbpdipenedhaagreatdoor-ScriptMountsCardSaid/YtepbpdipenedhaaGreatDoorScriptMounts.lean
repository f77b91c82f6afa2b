/-
  Proved: ScriptMounts returns true for every number and every list of steps, and leaves all that was there as it was. No condition but that math/bits' table holds what the program's text lays, which the card ties.
-/
import Derived.Test.YtepbpdipenedhaaGreatDoorS33
import Derived.Test.YtepbpdipenedhaaGreatDoorTie
import Derived.Test.YtepbpdipenedhaaGreatDoorCards
import Derived.ChangeOld
import Derived.SevenTiedAt
namespace Go.Proofs.YtepbpdipenedhaaGreatDoor.scriptMounts
open Go.ChangeShapes Go.WideShapes Go.ChangeAt Go.RowKit
theorem own:ownKnob Tryz.prog.godebug=none:=by kernel_rfl
theorem laidOut:laidOutB Tryz.prog=true:=by kernel_rfl
set_option maxRecDepth 100000 in
theorem lifted (os:Os) (y:os.Started) (H:Type) (enc:TypeId×Value→H):
  ReturnsInHanded {} Tryz.checked os 6 .any (λw args=>(Rows.scriptMountsSpec.pre enc Tryz.prog Tryz.f6 [] false w args∧laidMetH Tryz.prog [("math/bits.deBruijn64tab",Rows.laid_math_bits_deBruijn64tab)] w)∧sizedMet enc Tryz.prog Tryz.f6 (OpenSpec.ofChange Rows.scriptMountsSpec) false w args)
   (Rows.scriptMountsSpec.post enc Tryz.prog Tryz.f6 false true false false):=by
 refine returnsInHanded_of_change_and (C:= Tryz.checked) (X:=λw _=>laidMetH Tryz.prog [("math/bits.deBruijn64tab",Rows.laid_math_bits_deBruijn64tab)] w) (λ_ _ _ hh h=>h.of_heap hh) own y (by kernel_rfl) Tryz.func6
  (ChangeSpec.witness_shaped (enc:=enc) (C:= Tryz.checked) (os:=os) (X:=λw _=>laidMetH Tryz.prog [("math/bits.deBruijn64tab",Rows.laid_math_bits_deBruijn64tab)] w) false (World.doorLaid Tryz.prog 400 os) #[.int .u16 0,.slice none 0 0] 8 rfl (World.shaped_of_RefB (by kernel_rfl) (by kernel_rfl)) (by kernel_rfl) (by kernel_rfl) (by kernel_rfl) (Ub os _)) ?_
 intro W V args ds gs Z X0 hW _ _ hL _;have z:∀(j:Nat) t v,Tryz.f6.params[j]? =some t→args[j]? =some v→Value.okWide Tryz.prog W .any V t v:=X0;have ac:=hW;obtain⟨p,q,J,hV,rfl,_,_⟩:=hW;have hA:DataW.TrodAll enc Tryz.prog W 0 (λ_=>true) true Tryz.f6.params.toList args.toList ds p:=J;rw[Tryz.params6] at hA z;obtain⟨v0,av,d0,ar,p0,q0,ai,rfl,rfl,h0,r0⟩:=trodAll_cons hA;obtain⟨v1,ak,d1,au,p1,q1,rfl,rfl,rfl,h1,r1⟩:=trodAll_cons r0;obtain⟨rfl,rfl,rfl⟩:=trodAll_nil r1;obtain rfl:args= #[v0,v1]:=by cases args;simp_all
 obtain⟨rfl,rfl⟩:=trodVars_none hV;have aj:∀x∈p0,x.block<W.heap.size:=by obtain⟨m,U⟩:=h0;exact DataW.trod_lt m _ _ _ U
 have af:∀x∈p1,x.block<W.heap.size:=by obtain⟨m,U⟩:=h1;exact DataW.trod_lt m _ _ _ U
 have k0:=h0;have k1:=h1;obtain⟨x0,rfl,_,_,ag⟩:=open_int Tryz.underlying62 (z 0 62 v0 rfl rfl) h0;obtain⟨a1,ae,ah,rfl⟩:=okWide_slice Tryz.underlying63 (z 1 63 v1 rfl rfl);obtain⟨g,l,hP⟩:∃g l,wO W (.slice a1 ae ah) g l:=by
  obtain⟨m,U⟩:=h1;obtain⟨v,g,l,hv,hr⟩:=Mr U;simp[Value.cells] at hv;subst hv;exact⟨g,l,hr⟩
 clear J X0;refine(AG (J8 hL) (bounds_u16 ag) hP).mono λe W' ⟨he,aa⟩=> ?_
 have G:Below W.heap.size W W':=aa.below (Nat.le_refl _) (by simp);subst he;exact⟨_,rfl,_,_,_,[],_,[],ac,trodAll_mk1 (shut_bool Tryz.underlying4 _),trodAll_cons_mk (Below.trod laidOut (by kernel_rfl) (of_decide_eq_true (by kernel_rfl)) k0 G aj) (trodAll_cons_mk (Below.trod laidOut (by kernel_rfl) (of_decide_eq_true (by kernel_rfl)) k1 G af) trodAll_mk0),rfl,G.frame _,λh=>by cases h⟩
theorem over:Rows.scriptMountsRow.holds Tryz.pinned (OpenSpec.ofChange Rows.scriptMountsSpec):=
 OpenClaim.holds_of_wide 6 Tryz.f6 rfl rfl rfl rfl rfl rfl rfl ⟨rfl,rfl,rfl,rfl,rfl⟩ rfl rfl rfl rfl rfl (by kernel_rfl) Tryz.func6 (by kernel_rfl)
  (of_decide_eq_true (by kernel_rfl)) (by unfold Func.isWrapper;first|(rw[if_pos (by decide+kernel)];kernel_rfl)|(rw[if_neg (by decide+kernel)];exact⟨rfl,rfl⟩))
  (λos h H enc _=>lifted os h H enc)
theorem proved:Rows.ScriptMountsCardSaid:=
 Claim7.holds_tied_plain_at .later [] [.data] true _ false
  over (λ_ h=>by cases h) (by kernel_rfl) (λ_ h=>by cases h) scriptMounts_row_tie rfl ⟨rfl,rfl⟩ (by kernel_rfl) rfl
  (λf fn J z=>by
   obtain rfl:f= 6 :=Option.some.inj ((show Tryz.prog.funcNamed "imago/imagolaw13.ScriptMounts" =some 6 by kernel_rfl).symm.trans J) |>.symm;obtain rfl:fn= Tryz.f6 :=(Option.some.inj (Tryz.func6.symm.trans z)).symm;exact⟨by kernel_rfl,λj t G=>by
    rw[Tryz.params6] at G;have U:t∈[62,63]:=by simpa using Array.mem_of_getElem? G
    have y:([62,63].all λu=> !Tryz.prog.wantsStandIn u)=true:=by kernel_rfl
    exact(show Tryz.prog.wantsStandIn t=false by simpa using List.all_eq_true.1 y t U)⟩)
  (by kernel_rfl)
#print axioms proved
end Go.Proofs.YtepbpdipenedhaaGreatDoor.scriptMounts

/-
  Proved: VfsArgs returns true for every number and every format, and leaves all that was there as it was. No condition but that math/bits' table holds what the program's text lays, which the card ties.
-/
import Derived.Test.YtcecbdeamjigiaaGreatDoorH32
import Derived.Test.YtcecbdeamjigiaaGreatDoorTie
import Derived.Test.YtcecbdeamjigiaaGreatDoorCards
import Derived.ChangeOld
import Derived.SevenTiedAt
namespace Go.Proofs.YtcecbdeamjigiaaGreatDoor.vfsArgs
open Go.ChangeShapes Go.WideShapes Go.ChangeAt Go.RowKit
theorem own:ownKnob Tryz.prog.godebug=none:=by kernel_rfl
theorem laidOut:laidOutB Tryz.prog=true:=by kernel_rfl
set_option maxRecDepth 100000 in
theorem lifted (os:Os) (z:os.Started) (H:Type) (enc:TypeId×Value→H):
  ReturnsInHanded {} Tryz.checked os 8 .any (λw args=>(Rows.vfsArgsSpec.pre enc Tryz.prog Tryz.f8 [] false w args∧laidMetH Tryz.prog [("math/bits.deBruijn64tab",Rows.laid_math_bits_deBruijn64tab)] w)∧sizedMet enc Tryz.prog Tryz.f8 (OpenSpec.ofChange Rows.vfsArgsSpec) false w args)
   (Rows.vfsArgsSpec.post enc Tryz.prog Tryz.f8 false true false false):=by
 refine returnsInHanded_of_change_and (C:= Tryz.checked) (X:=λw _=>laidMetH Tryz.prog [("math/bits.deBruijn64tab",Rows.laid_math_bits_deBruijn64tab)] w) (λ_ _ _ hh h=>h.of_heap hh) own z (by kernel_rfl) Tryz.func8
  (ChangeSpec.witness_shaped (enc:=enc) (C:= Tryz.checked) (os:=os) (X:=λw _=>laidMetH Tryz.prog [("math/bits.deBruijn64tab",Rows.laid_math_bits_deBruijn64tab)] w) false (World.doorLaid Tryz.prog 400 os) #[.int .u16 0,.int .i64 0] 8 rfl (World.shaped_of_RefB (by kernel_rfl) (by kernel_rfl)) (by kernel_rfl) (by kernel_rfl) (by kernel_rfl) (Ut os _)) ?_
 intro W U args ds gs V Yu hW _ _ hL _;have y:∀(j:Nat) t v,Tryz.f8.params[j]? =some t→args[j]? =some v→Value.okWide Tryz.prog W .any U t v:=Yu;have ac:=hW;obtain⟨p,q,J,hV,rfl,_,_⟩:=hW;have hA:DataW.TrodAll enc Tryz.prog W 0 (λ_=>true) true Tryz.f8.params.toList args.toList ds p:=J;rw[Tryz.params8] at hA y;obtain⟨v0,aj,d0,af,p0,q0,ag,rfl,rfl,h0,r0⟩:=trodAll_cons hA;obtain⟨v1,ai,d1,ah,p1,q1,rfl,rfl,rfl,h1,r1⟩:=trodAll_cons r0;obtain⟨rfl,rfl,rfl⟩:=trodAll_nil r1;obtain rfl:args= #[v0,v1]:=by cases args;simp_all
 obtain⟨rfl,rfl⟩:=trodVars_none hV;have Z:∀x∈p0,x.block<W.heap.size:=by obtain⟨m,hm⟩:=h0;exact DataW.trod_lt m _ _ _ hm
 have ae:∀x∈p1,x.block<W.heap.size:=by obtain⟨m,hm⟩:=h1;exact DataW.trod_lt m _ _ _ hm
 have k0:=h0;have k1:=h1;obtain⟨x0,rfl,_,_,aa⟩:=open_int Tryz.underlying65 (y 0 65 v0 rfl rfl) h0;obtain⟨x1,rfl,_,_,_⟩:=open_int Tryz.underlying3 (y 1 3 v1 rfl rfl) h1;clear J Yu;have hb:0≤x0∧x0≤65535:=bounds_u16 aa;refine(Mn (J3 hL) hb x1).mono λe W' ⟨he,xJ⟩=> ?_
 have G:Below W.heap.size W W':=xJ.below (Nat.le_refl _) (by simp);subst he;exact⟨_,rfl,_,_,_,[],_,[],ac,trodAll_mk1 (shut_bool Tryz.underlying4 _),trodAll_cons_mk (Below.trod laidOut (by kernel_rfl) (of_decide_eq_true (by kernel_rfl)) k0 G Z) (trodAll_cons_mk (Below.trod laidOut (by kernel_rfl) (of_decide_eq_true (by kernel_rfl)) k1 G ae) trodAll_mk0),rfl,G.frame _,λh=>by cases h⟩
theorem over:Rows.vfsArgsRow.holds Tryz.pinned (OpenSpec.ofChange Rows.vfsArgsSpec):=
 OpenClaim.holds_of_wide 8 Tryz.f8 rfl rfl rfl rfl rfl rfl rfl ⟨rfl,rfl,rfl,rfl,rfl⟩ rfl rfl rfl rfl rfl (by kernel_rfl) Tryz.func8 (by kernel_rfl)
  (of_decide_eq_true (by kernel_rfl)) (by unfold Func.isWrapper;first|(rw[if_pos (by decide+kernel)];kernel_rfl)|(rw[if_neg (by decide+kernel)];exact⟨rfl,rfl⟩))
  (λos h H enc _=>lifted os h H enc)
theorem proved:Rows.VfsArgsCardSaid:=
 Claim7.holds_tied_plain_at .later [] [.data] true _ false
  over (λ_ h=>by cases h) (by kernel_rfl) (λ_ h=>by cases h) vfsArgs_row_tie rfl ⟨rfl,rfl⟩ (by kernel_rfl) rfl
  (λf U J z=>by
   obtain rfl:f= 8 :=Option.some.inj ((show Tryz.prog.funcNamed "imago/imagolaw12.VfsArgs" =some 8 by kernel_rfl).symm.trans J) |>.symm;obtain rfl:U= Tryz.f8 :=(Option.some.inj (Tryz.func8.symm.trans z)).symm;exact⟨by kernel_rfl,λj t G=>by
    rw[Tryz.params8] at G;have V:t∈[65,3]:=by simpa using Array.mem_of_getElem? G
    have y:([65,3].all λu=> !Tryz.prog.wantsStandIn u)=true:=by kernel_rfl
    exact(show Tryz.prog.wantsStandIn t=false by simpa using List.all_eq_true.1 y t V)⟩)
  (by kernel_rfl)
#print axioms proved
end Go.Proofs.YtcecbdeamjigiaaGreatDoor.vfsArgs

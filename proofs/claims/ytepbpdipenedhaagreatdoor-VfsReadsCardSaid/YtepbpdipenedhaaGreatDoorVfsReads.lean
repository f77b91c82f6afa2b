/-
  Proved: VfsReads returns true for every list of ops and each of both bools, and leaves all that was there as it was. No condition but that math/bits' table holds what the program's text lays, which the card ties.
-/
import Derived.Test.YtepbpdipenedhaaGreatDoorR37
import Derived.Test.YtepbpdipenedhaaGreatDoorTie
import Derived.Test.YtepbpdipenedhaaGreatDoorCards
import Derived.ChangeOld
import Derived.SevenTiedAt
namespace Go.Proofs.YtepbpdipenedhaaGreatDoor.vfsReads
open Go.ChangeShapes Go.WideShapes Go.ChangeAt Go.RowKit
theorem own:ownKnob Tryz.prog.godebug=none:=by kernel_rfl
theorem laidOut:laidOutB Tryz.prog=true:=by kernel_rfl
set_option maxRecDepth 100000 in
theorem lifted (os:Os) (z:os.Started) (H:Type) (enc:TypeId×Value→H):
  ReturnsInHanded {} Tryz.checked os 3 .any (λw args=>(Rows.vfsReadsSpec.pre enc Tryz.prog Tryz.f3 [] false w args∧laidMetH Tryz.prog [("math/bits.deBruijn64tab",Rows.laid_math_bits_deBruijn64tab)] w)∧sizedMet enc Tryz.prog Tryz.f3 (OpenSpec.ofChange Rows.vfsReadsSpec) false w args)
   (Rows.vfsReadsSpec.post enc Tryz.prog Tryz.f3 false true false false):=by
 refine returnsInHanded_of_change_and (C:= Tryz.checked) (X:=λw _=>laidMetH Tryz.prog [("math/bits.deBruijn64tab",Rows.laid_math_bits_deBruijn64tab)] w) (λ_ _ _ hh h=>h.of_heap hh) own z (by kernel_rfl) Tryz.func3
  (ChangeSpec.witness_shaped (enc:=enc) (C:= Tryz.checked) (os:=os) (X:=λw _=>laidMetH Tryz.prog [("math/bits.deBruijn64tab",Rows.laid_math_bits_deBruijn64tab)] w) false (World.doorLaid Tryz.prog 400 os) #[.slice none 0 0,.bool false] 8 rfl (World.shaped_of_RefB (by kernel_rfl) (by kernel_rfl)) (by kernel_rfl) (by kernel_rfl) (by kernel_rfl) (Za os _)) ?_
 intro W aa args ds gs ae V hW _ _ hL _;have G:∀(j:Nat) t v,Tryz.f3.params[j]? =some t→args[j]? =some v→Value.okWide Tryz.prog W .any aa t v:=V;have ar:=hW;obtain⟨p,q,ac,hV,rfl,_,_⟩:=hW;have hA:DataW.TrodAll enc Tryz.prog W 0 (λ_=>true) true Tryz.f3.params.toList args.toList ds p:=ac;rw[Tryz.params3] at hA G;obtain⟨v0,ay,d0,ax,p0,q0,ai,rfl,rfl,h0,r0⟩:=trodAll_cons hA;obtain⟨v1,av,d1,au,p1,q1,rfl,rfl,rfl,h1,r1⟩:=trodAll_cons r0;obtain⟨rfl,rfl,rfl⟩:=trodAll_nil r1;obtain rfl:args= #[v0,v1]:=by cases args;simp_all
 obtain⟨rfl,rfl⟩:=trodVars_none hV;have af:∀x∈p0,x.block<W.heap.size:=by obtain⟨m,U⟩:=h0;exact DataW.trod_lt m _ _ _ U
 have aj:∀x∈p1,x.block<W.heap.size:=by obtain⟨m,U⟩:=h1;exact DataW.trod_lt m _ _ _ U
 have k0:=h0;have k1:=h1;obtain⟨a0,ag,ah,rfl⟩:=okWide_slice Tryz.underlying22 (G 0 22 v0 rfl rfl);obtain⟨g,l,hP⟩:∃g l,zU W (.slice a0 ag ah) g l:=by
  obtain⟨m,U⟩:=h0;obtain⟨v,g,l,hv,hr⟩:=Vv U;simp[Value.cells] at hv;subst hv;exact⟨g,l,hr⟩
 obtain⟨x1,rfl,_,_⟩:=open_bool Tryz.underlying4 (G 1 4 v1 rfl rfl) h1;clear ac V;refine(N0 (N2 hL) hP x1).mono λe W' ⟨he,ak⟩=> ?_
 have J:Below W.heap.size W W':=ak.below (Nat.le_refl _) (by simp);subst he;exact⟨_,rfl,_,_,_,[],_,[],ar,trodAll_mk1 (shut_bool Tryz.underlying4 _),trodAll_cons_mk (Below.trod laidOut (by kernel_rfl) (of_decide_eq_true (by kernel_rfl)) k0 J af) (trodAll_cons_mk (Below.trod laidOut (by kernel_rfl) (of_decide_eq_true (by kernel_rfl)) k1 J aj) trodAll_mk0),rfl,J.frame _,λh=>by cases h⟩
theorem over:Rows.vfsReadsRow.holds Tryz.pinned (OpenSpec.ofChange Rows.vfsReadsSpec):=
 OpenClaim.holds_of_wide 3 Tryz.f3 rfl rfl rfl rfl rfl rfl rfl ⟨rfl,rfl,rfl,rfl,rfl⟩ rfl rfl rfl rfl rfl (by kernel_rfl) Tryz.func3 (by kernel_rfl)
  (of_decide_eq_true (by kernel_rfl)) (by unfold Func.isWrapper;first|(rw[if_pos (by decide+kernel)];kernel_rfl)|(rw[if_neg (by decide+kernel)];exact⟨rfl,rfl⟩))
  (λos h H enc _=>lifted os h H enc)
theorem proved:Rows.VfsReadsCardSaid:=
 Claim7.holds_tied_plain_at .later [] [.data] true _ false
  over (λ_ h=>by cases h) (by kernel_rfl) (λ_ h=>by cases h) vfsReads_row_tie rfl ⟨rfl,rfl⟩ (by kernel_rfl) rfl
  (λf fn V G=>by
   obtain rfl:f= 3 :=Option.some.inj ((show Tryz.prog.funcNamed "imago/imagolaw12.VfsReads" =some 3 by kernel_rfl).symm.trans V) |>.symm;obtain rfl:fn= Tryz.f3 :=(Option.some.inj (Tryz.func3.symm.trans G)).symm;exact⟨by kernel_rfl,λj t J=>by
    rw[Tryz.params3] at J;have U:t∈[22,4]:=by simpa using Array.mem_of_getElem? J
    have z:([22,4].all λu=> !Tryz.prog.wantsStandIn u)=true:=by kernel_rfl
    exact(show Tryz.prog.wantsStandIn t=false by simpa using List.all_eq_true.1 z t U)⟩)
  (by kernel_rfl)
#print axioms proved
end Go.Proofs.YtepbpdipenedhaaGreatDoor.vfsReads

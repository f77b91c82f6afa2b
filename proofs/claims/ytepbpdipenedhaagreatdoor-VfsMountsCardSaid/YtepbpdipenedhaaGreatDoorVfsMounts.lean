/-
  Proved: VfsMounts returns true for every list of ops and every list of pairs, and leaves all that was there as it was. No condition but that math/bits' table holds what the program's text lays, which the card ties.
-/
import Derived.Test.YtepbpdipenedhaaGreatDoorM36
import Derived.Test.YtepbpdipenedhaaGreatDoorTie
import Derived.Test.YtepbpdipenedhaaGreatDoorCards
import Derived.ChangeOld
import Derived.SevenTiedAt
namespace Go.Proofs.YtepbpdipenedhaaGreatDoor.vfsMounts
open Go.ChangeShapes Go.WideShapes Go.ChangeAt Go.RowKit
theorem own:ownKnob Tryz.prog.godebug=none:=by kernel_rfl
theorem laidOut:laidOutB Tryz.prog=true:=by kernel_rfl
set_option maxRecDepth 100000 in
theorem lifted (os:Os) (z:os.Started) (H:Type) (enc:TypeId×Value→H):
  ReturnsInHanded {} Tryz.checked os 5 .any (λw args=>(Rows.vfsMountsSpec.pre enc Tryz.prog Tryz.f5 [] false w args∧laidMetH Tryz.prog [("math/bits.deBruijn64tab",Rows.laid_math_bits_deBruijn64tab)] w)∧sizedMet enc Tryz.prog Tryz.f5 (OpenSpec.ofChange Rows.vfsMountsSpec) false w args)
   (Rows.vfsMountsSpec.post enc Tryz.prog Tryz.f5 false true false false):=by
 refine returnsInHanded_of_change_and (C:= Tryz.checked) (X:=λw _=>laidMetH Tryz.prog [("math/bits.deBruijn64tab",Rows.laid_math_bits_deBruijn64tab)] w) (λ_ _ _ hh h=>h.of_heap hh) own z (by kernel_rfl) Tryz.func5
  (ChangeSpec.witness_shaped (enc:=enc) (C:= Tryz.checked) (os:=os) (X:=λw _=>laidMetH Tryz.prog [("math/bits.deBruijn64tab",Rows.laid_math_bits_deBruijn64tab)] w) false (World.doorLaid Tryz.prog 400 os) #[.slice none 0 0,.slice none 0 0] 8 rfl (World.shaped_of_RefB (by kernel_rfl) (by kernel_rfl)) (by kernel_rfl) (by kernel_rfl) (by kernel_rfl) (aaL os _)) ?_
 intro W V args ds gs af ac hW _ _ hL _;have G:∀(j:Nat) t v,Tryz.f5.params[j]? =some t→args[j]? =some v→Value.okWide Tryz.prog W .any V t v:=ac;have ag:=hW;obtain⟨p,q,aa,hV,rfl,_,_⟩:=hW;have hA:DataW.TrodAll enc Tryz.prog W 0 (λ_=>true) true Tryz.f5.params.toList args.toList ds p:=aa;rw[Tryz.params5] at hA G;obtain⟨v0,az,d0,aB,p0,q0,ar,rfl,rfl,h0,r0⟩:=trodAll_cons hA;obtain⟨v1,ay,d1,aA,p1,q1,rfl,rfl,rfl,h1,r1⟩:=trodAll_cons r0;obtain⟨rfl,rfl,rfl⟩:=trodAll_nil r1;obtain rfl:args= #[v0,v1]:=by cases args;simp_all
 obtain⟨rfl,rfl⟩:=trodVars_none hV;have aj:∀x∈p0,x.block<W.heap.size:=by obtain⟨m,J⟩:=h0;exact DataW.trod_lt m _ _ _ J
 have ak:∀x∈p1,x.block<W.heap.size:=by obtain⟨m,J⟩:=h1;exact DataW.trod_lt m _ _ _ J
 have k0:=h0;have k1:=h1;obtain⟨a0,ax,au,rfl⟩:=okWide_slice Tryz.underlying22 (G 0 22 v0 rfl rfl);obtain⟨g,l,hP⟩:∃g l,xh W (.slice a0 ax au) g l:=by
  obtain⟨m,J⟩:=h0;obtain⟨v,g,l,hv,hr⟩:=WN J;simp[Value.cells] at hv;subst hv;exact⟨g,l,hr⟩
 obtain⟨a1,av,ai,rfl⟩:=okWide_slice Tryz.underlying54 (G 1 54 v1 rfl rfl);obtain⟨gb,ps,hB,hu⟩:∃gb ps,ku W (.slice a1 av ai) gb ps∧∀k,0≤lv ps k∧lv ps k<18446744073709551616:=by
  obtain⟨m,J⟩:=h1;obtain⟨v,g,ps,hv,hr,hk⟩:=Iu J;simp[Value.cells] at hv;subst hv;exact⟨g,ps,hr,λk=>by
   unfold lv;rw[List.getD_eq_getElem?_getD];by_cases ae:k<ps.length
   ·rw[List.getElem?_eq_getElem ae,Option.getD_some]
    have :=(hk _ (List.getElem_mem ae)).2;omega
   ·rw[List.getElem?_eq_none (by omega)]
    simp⟩
 clear aa ac;refine(Md (PB hL) hP hB hu).mono λe W' ⟨he,ah⟩=> ?_
 have U:Below W.heap.size W W':=ah.below (Nat.le_refl _) (by simp);subst he;exact⟨_,rfl,_,_,_,[],_,[],ag,trodAll_mk1 (shut_bool Tryz.underlying4 _),trodAll_cons_mk (Below.trod laidOut (by kernel_rfl) (of_decide_eq_true (by kernel_rfl)) k0 U aj) (trodAll_cons_mk (Below.trod laidOut (by kernel_rfl) (of_decide_eq_true (by kernel_rfl)) k1 U ak) trodAll_mk0),rfl,U.frame _,λh=>by cases h⟩
theorem over:Rows.vfsMountsRow.holds Tryz.pinned (OpenSpec.ofChange Rows.vfsMountsSpec):=
 OpenClaim.holds_of_wide 5 Tryz.f5 rfl rfl rfl rfl rfl rfl rfl ⟨rfl,rfl,rfl,rfl,rfl⟩ rfl rfl rfl rfl rfl (by kernel_rfl) Tryz.func5 (by kernel_rfl)
  (of_decide_eq_true (by kernel_rfl)) (by unfold Func.isWrapper;first|(rw[if_pos (by decide+kernel)];kernel_rfl)|(rw[if_neg (by decide+kernel)];exact⟨rfl,rfl⟩))
  (λos h H enc _=>lifted os h H enc)
theorem proved:Rows.VfsMountsCardSaid:=
 Claim7.holds_tied_plain_at .later [] [.data] true _ false
  over (λ_ h=>by cases h) (by kernel_rfl) (λ_ h=>by cases h) vfsMounts_row_tie rfl ⟨rfl,rfl⟩ (by kernel_rfl) rfl
  (λf fn U G=>by
   obtain rfl:f= 5 :=Option.some.inj ((show Tryz.prog.funcNamed "imago/imagolaw12.VfsMounts" =some 5 by kernel_rfl).symm.trans U) |>.symm;obtain rfl:fn= Tryz.f5 :=(Option.some.inj (Tryz.func5.symm.trans G)).symm;exact⟨by kernel_rfl,λj t J=>by
    rw[Tryz.params5] at J;have V:t∈[22,54]:=by simpa using Array.mem_of_getElem? J
    have z:([22,54].all λu=> !Tryz.prog.wantsStandIn u)=true:=by kernel_rfl
    exact(show Tryz.prog.wantsStandIn t=false by simpa using List.all_eq_true.1 z t V)⟩)
  (by kernel_rfl)
#print axioms proved
end Go.Proofs.YtepbpdipenedhaaGreatDoor.vfsMounts

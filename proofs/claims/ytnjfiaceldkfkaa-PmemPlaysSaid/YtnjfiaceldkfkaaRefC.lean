/-
  Layer 1's reference: New.
-/
import Derived.Test.YtnjfiaceldkfkaaRefB
import Derived.Deep.RegionLawGrows
namespace Go.Proofs.Ytnjfiaceldkfkaa
open Go.RowKit

def RefS.fresh (xs : List Int) : RefS := { now := xs, last := xs, fl := List.replicate xs.length false, deeds := 0, fuse := -1 }

def RefMade (w : World) (xs : List Int) (e : Ending) (w' : World) : Prop :=
  ∃ b gn gl gf, e = .returned (.pointer (some ⟨b, 0, none⟩)) ∧ RefAt w' b gn gl gf (RefS.fresh xs) ∧ (w.heap.size ≤ b ∧ w.heap.size ≤ gn ∧ w.heap.size ≤ gl ∧ w.heap.size ≤ gf) ∧ Keeps [] w w'

theorem RefMade.drew {w : World} {xs : List Int} {e : Ending} {w' : World} (h : RefMade w xs e w') : RefMade w xs e w'.drew := by
  obtain ⟨b, gn, gl, gf, h1, h2, h3, h4⟩ := h
  exact ⟨b, gn, gl, gf, h1, h2.drew, h3, h4.drew⟩

theorem refMade_of {w W : World} {v1 v2 v3 : Value} {g1 g2 g3 : Nat} {xs : List Int} (hn : xs.length ≤ 10000) (hk : Keeps [] w W) (o1 : Owns W v1 g1 31 1 xs.length (u64s xs)) (o2 : Owns W v2 g2 31 1 xs.length (u64s xs))
    (o3 : Owns W v3 g3 4 1 xs.length (bools (List.replicate xs.length false)))
    (hz : xs.length ≠ 0 → (w.heap.size ≤ g1 ∧ w.heap.size ≤ g2 ∧ w.heap.size ≤ g3) ∧ g1 ≠ g2 ∧ g1 ≠ g3 ∧ g2 ≠ g3) :
    RefMade w xs (.returned (.pointer (some ⟨W.heap.size, 0, none⟩))) (W.alloc (.cells #[v1, v2, v3, .int .i64 0, .int .i64 (-1)] 48)) := by
  have hsz := hk.size
  by_cases h0 : xs.length = 0
  · refine ⟨W.heap.size, W.heap.size, W.heap.size, W.heap.size, rfl, ⟨hn, rfl, by simp [RefS.fresh], fun h => absurd h0 h, v1, v2, v3, Blk.new _ _ _, ?_, ?_, ?_⟩, ⟨hsz, hsz, hsz, hsz⟩, hk.alloc _⟩
    · exact (o1.alloc _).anyG h0 _
    · exact (o2.alloc _).anyG h0 _
    · exact (o3.alloc _).anyG h0 _
  · obtain ⟨⟨a1, a2, a3⟩, a4, a5, a6⟩ := hz h0
    have l1 := (o1.cell h0).1
    have l2 := (o2.cell h0).1
    have l3 := (o3.cell h0).1
    exact ⟨W.heap.size, g1, g2, g3, rfl, ⟨hn, rfl, by simp [RefS.fresh], fun _ => ⟨⟨by omega, by omega, by omega⟩, a4, a5, a6⟩, v1, v2, v3, Blk.new _ _ _, o1.alloc _, o2.alloc _, o3.alloc _⟩, ⟨hsz, a1, a2, a3⟩, hk.alloc _⟩

theorem refMade_of' {w W : World} {v1 v2 : Value} {g1 g2 b gm : Nat} {xs : List Int} {mc : Array Value} (hn : xs.length ≤ 10000) (hb : b = W.heap.size) (hk : Keeps [] w W) (o1 : Owns W v1 g1 31 1 xs.length (u64s xs)) (o2 : Owns W v2 g2 31 1 xs.length (u64s xs))
    (hm : mc.toList = bools (List.replicate xs.length false)) (o3 : Blk W gm mc 4)
    (hz : (w.heap.size ≤ g1 ∧ w.heap.size ≤ g2 ∧ w.heap.size ≤ gm) ∧ g1 ≠ g2 ∧ g1 ≠ gm ∧ g2 ≠ gm) :
    RefMade w xs (.returned (.pointer (some ⟨b, 0, none⟩))) (W.alloc (.cells #[v1, v2, .slice (some ⟨gm, 0, none⟩) xs.length xs.length, .int .i64 0, .int .i64 (-1)] 48)) := by
  subst hb
  have hs : mc.size = xs.length := by rw [← Array.length_toList, hm]; simp [bools]
  refine refMade_of hn hk o1 o2 (g3 := gm) ⟨by simp [bools], _, xs.length, rfl, Nat.le_refl _, by unfold maxLen; omega, fun _ => ⟨rfl, mc, o3, by omega, ?_⟩⟩ (fun _ => hz)
  rw [← hm, List.take_of_length_le (by rw [Array.length_toList]; omega)]

theorem refMade_nil {w W : World} {a1 a2 a3 : Option Addr} {b : Nat} (hb : b = W.heap.size) (hk : Keeps [] w W) :
    RefMade w [] (.returned (.pointer (some ⟨b, 0, none⟩))) (W.alloc (.cells #[.slice a1 0 0, .slice a2 0 0, .slice a3 0 0, .int .i64 0, .int .i64 (-1)] 48)) := by
  subst hb
  exact refMade_of (xs := []) (g1 := 0) (g2 := 0) (g3 := 0) (by simp) hk (Owns.of_zero _ _ _ (by simp [maxLen]) _ _ _) (Owns.of_zero _ _ _ (by simp [maxLen]) _ _ _) (Owns.of_zero _ _ _ (by simp [maxLen]) _ _ _) (fun h => absurd rfl h)

theorem Blk.new_at {w : World} {b : Nat} {c : Array Value} {T : Nat} (h : b = w.heap.size) : Blk (w.alloc (.cells c T)) b c T := by
  subst h; exact Blk.new w c T

theorem Try.info_bool : (Try.prog.info? 4).map (fun i => (i.zero, i.size, i.bytes)) = some (some (.bool false), 1, 1) := by kernel_rfl

/-- append of nothing to an empty slice with no room. -/
theorem run_append_nothing {P : Program} (w : World) (t ty e : TypeId) (i : TypeInfo) (ht : P.underlying t = some (.slice e)) (hi : P.info? e = some i) (ad : Addr) (xa : Option Addr) (c : Nat) :
    (Builtin.append_ #[t, t] ty #[.slice (some ad) 0 0, .slice xa 0 c]).run P w = .ok (.slice (some ad) 0 0) w := by
  cases xa <;> simp [Builtin.append_, run_underlying ht, sizeOf, typeInfo, hi, Builtin.lenOf, Builtin.firstCells, loadCells, loadCellsFrom, storeCells]

theorem step_append_nothing {P : Program} {ops : Array Oper} {o : Oper} {a : Act} {w : World} {K : Act → World → Prop} {Q : Exit → Act → World → Prop} {E : Prop}
    (hg : o.guard = none) (s x : Operand) (t : TypeId) (hop : o.op = Op.call { callee := Callee.builtin Builtin.append, args := #[s, x], argTypes := #[t, t] })
    (e : TypeId) (i : TypeInfo) (h1 : P.underlying t = some (.slice e)) (h2 : P.info? e = some i) (ad : Addr) (hs : a.eval s = .slice (some ad) 0 0) (xa : Option Addr) (c : Nat) (hx : a.eval x = .slice xa 0 c)
    (hK : K (a.put o.dst (.slice (some ad) 0 0)) w) : if Region.wanted o (yielded ops a.tmps) = true then Oper.wp P o a w K Q else E := by
  have hw : Region.wanted o (yielded ops a.tmps) = true := by simp [Region.wanted, hg]
  rw [if_pos hw]
  have hrun := run_append_nothing (P := P) w t o.type e i h1 h2 ad xa c
  unfold Oper.wp
  simp [execOp, hop, resolve, invoke, builtin, hs, hx, hrun, Result.andThen]
  exact hK

set_option maxHeartbeats 4000000 in
theorem refNew_at {w : World} {v : Value} {g : Nat} {xs : List Int} (h : Reads w v g (u64s xs)) (hn : xs.length ≤ 10000) :
    Calls Try.prog 17 #[v] w (RefMade w xs) := by
  obtain ⟨i0, hi, hz0, hz1, hz2⟩ := info_parts Try.info_u64
  have hmk : ∀ wz : World, (Instr.makeSlice 46 (.int .i64 (xs.length : Int)) (.int .i64 (xs.length : Int))).run Try.prog wz =
      .ok (.slice (some ⟨wz.heap.size, 0, none⟩) xs.length xs.length) (wz.alloc (.cells (madeCells #[.bool false] xs.length) 4)) := fun wz => by
    obtain ⟨i0, hi, hz0, hz1, hz2⟩ := info_parts Try.info_bool
    have := run_make (P := Try.prog) wz 46 4 i0 _ Try.underlying46 hi hz0 .i64 .i64 (xs.length : Int) (xs.length : Int) (by omega) (by omega) (by rw [hz2]; omega) (by omega)
    rw [hz1, Int.toNat_natCast, Nat.mul_one] at this
    exact this
  obtain ⟨mc, hmc⟩ : ∃ mc, mc = madeCells #[Value.bool false] xs.length := ⟨_, rfl⟩
  have HMC : Hid (mc.toList = bools (List.replicate xs.length false)) := by
    show mc.toList = _
    rw [hmc, toList_madeCells_one]; simp [bools]
  rw [← hmc] at hmk
  clear hmc
  have HR := Lib.hid h
  obtain ⟨av, cv, rfl, hkm⟩ := h.val
  rw [u64s_len] at hkm HR ⊢
  unfold maxLen at hkm
  by_cases h0 : xs.length = 0
  · obtain rfl : xs = [] := List.eq_nil_of_length_eq_zero h0
    clear HR h h0
    simp only [List.length_nil, Int.natCast_zero] at hmk HMC ⊢
    go_enter Try.func17, Try.ntmps17
    go_wp2_with fail
    go_region_law (first
      | (refine step_append_nothing rfl (.tmp 3) (.tmp 4) 28 rfl 31 i0 Try.underlying28 hi _ (by simp [Act.eval]; rfl) av cv (by simp [Act.eval]) ?_)
      | (refine step_append_nothing rfl (.tmp 6) (.tmp 7) 28 rfl 31 i0 Try.underlying28 hi _ (by simp [Act.eval]; rfl) av cv (by simp [Act.eval]) ?_))
    all_goals go_wp2_with fail
    all_goals go_ret
    all_goals
      show RefMade w [] (.returned (.pointer (some ⟨_, 0, none⟩))) (World.drew (World.alloc _ (.cells #[_, _, _, _, _] _)))
      refine RefMade.drew (refMade_nil ?_ ?_)
      · simp
      · repeat (first | (with_reducible exact Keeps.refl _ _) | (with_reducible refine Keeps.drew ?_) | (with_reducible refine Keeps.alloc ?_ _))
  · obtain ⟨_, _, hv, _, _, h4⟩ := h
    obtain ⟨hg, off, ha, hc⟩ := h4 (by intro e; exact h0 (by rw [← u64s_len, e]; rfl))
    subst ha
    obtain ⟨rfl, -, -⟩ := Value.slice.inj hv
    have HC : Hid (∀ wz, Keeps [] w wz → ∀ j u, (u64s xs)[j]? = some u → wz.cell? ((⟨g, off, none⟩ : Addr).add j) = some u) := fun wz hk j u hu => by
      have hj : j < (u64s xs).length := (List.getElem?_eq_some_iff.1 hu).1
      rw [add_plain, World.cell?_of_block (w := w) (hk.block g hg (by simp)), hc j hj, hu]
    have HNL : Hid ((u64s xs).length = xs.length * 1) := by
      show (u64s xs).length = xs.length * 1
      rw [u64s_len]; omega
    clear h4 hc hv
    go_enter Try.func17, Try.ntmps17
    go_wp2_with fail
    go_region_law (first
      | (refine step_append_grows rfl (.tmp 3) (.tmp 4) 28 rfl 31 i0 (.int .u64 0) 1 8 Try.underlying28 hi hz0 hz1 hz2 rfl (by decide) (some _) 0 0 [] (by simp [Act.eval]; rfl) (by simp) rfl (by simp) ⟨g, off, none⟩ xs.length cv (u64s xs) (by simp [Act.eval]) HNL.out (HC.out _ ?hk) (u64s_one xs) (by omega) (by unfold maxLen; omega) (by omega) ?_; (case hk => (repeat (first | exact Keeps.refl _ _ | assumption | refine Keeps.drew ?_ | refine Keeps.alloc ?_ _ | refine Keeps.trans (l' := []) ?_ (Keeps.of_grown (by assumption) (by simp)) (by simp)))); intro v1 w1 hown1 hgrow1; (rw [Nat.zero_add, List.nil_append] at hown1); obtain ⟨g1, o1, z1⟩ := Owns.of_row hown1; obtain ⟨a1, c1, rfl, _, _⟩ := o1.val; (have O1 := Lib.hid o1); (have Z1 := Lib.hid (z1 h0).1); (have L1 := Lib.hid (o1.cell h0).1); clear o1 z1 hown1)
      | (refine step_append_grows rfl (.tmp 6) (.tmp 7) 28 rfl 31 i0 (.int .u64 0) 1 8 Try.underlying28 hi hz0 hz1 hz2 rfl (by decide) (some _) 0 0 [] (by simp [Act.eval]; rfl) (by simp) rfl (by simp) ⟨g, off, none⟩ xs.length cv (u64s xs) (by simp [Act.eval]) HNL.out (HC.out _ ?hk) (u64s_one xs) (by omega) (by unfold maxLen; omega) (by omega) ?_; (case hk => (repeat (first | exact Keeps.refl _ _ | assumption | refine Keeps.drew ?_ | refine Keeps.alloc ?_ _ | refine Keeps.trans (l' := []) ?_ (Keeps.of_grown (by assumption) (by simp)) (by simp)))); intro v2 w2 hown2 hgrow2; (rw [Nat.zero_add, List.nil_append] at hown2); obtain ⟨g2, o2, z2⟩ := Owns.of_row hown2; obtain ⟨a2, c2, rfl, _, _⟩ := o2.val; (have O2 := Lib.hid o2); (have Z2 := Lib.hid (z2 h0).1); (have L2 := Lib.hid (o2.cell h0).1); clear o2 z2 hown2))
    all_goals go_wp2_with fail
    all_goals go_ret
    all_goals
      show RefMade w xs (.returned (.pointer (some ⟨_, 0, none⟩))) (World.alloc _ (.cells #[_, _, .slice (some ⟨_, 0, none⟩) _ _, _, _] _))
      refine refMade_of' (g1 := g1) (g2 := g2) (mc := mc) hn ?_ ?_ ?_ ?_ HMC.out ?_ ?_
      · simp
      · repeat (first | (with_reducible exact Keeps.refl _ _) | (with_reducible refine Keeps.drew ?_) | (with_reducible refine Keeps.alloc ?_ _) | refine Keeps.trans (l' := []) ?_ (Keeps.of_grown (by assumption) (by simp)) (by simp))
      · repeat (first | (with_reducible exact O1.out) | (with_reducible refine Owns.drew ?_) | (with_reducible refine Owns.alloc ?_ _) | refine Owns.keep ?_ (Keeps.of_grown (l := []) (by assumption) (by simp)) (by simp))
      · repeat (first | (with_reducible exact O2.out) | (with_reducible refine Owns.drew ?_) | (with_reducible refine Owns.alloc ?_ _) | refine Owns.keep ?_ (Keeps.of_grown (l := []) (by assumption) (by simp)) (by simp))
      · repeat (first | ((with_reducible refine Blk.new_at ?_); simp; done) | (with_reducible refine Blk.drew ?_) | (with_reducible refine Blk.alloc ?_ _) | refine Blk.keep ?_ (Keeps.of_grown (l := []) (by assumption) (by simp)) (by simp))
      · have y1 := Z1.out
        have y2 := Z2.out
        have y3 := L1.out
        have y4 := L2.out
        have y5 := hgrow1.size
        have y6 := hgrow2.size
        simp at y1 y2 y5 y6
        omega

end Go.Proofs.Ytnjfiaceldkfkaa

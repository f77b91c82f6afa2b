/-
  Layer 1 (pmem): slices.Clone, Of, New, Fuse.
-/
import Derived.Test.YtopljfbgbiipiaaPmE
import Derived.Deep.RegionWith
namespace Go.Proofs.Ytopljfbgbiipiaa
open Go.RowKit

theorem Try.info_u64 : (Try.prog.info? 40).map (fun i => (i.zero, i.size, i.bytes)) = some (some (.int .u64 0), 1, 8) := by kernel_rfl

theorem Try.info_marks : (Try.prog.info? 75).map (fun i => (i.zero, i.size, i.bytes)) = some (some (.agg (Array.replicate 8 (.bool false))), 8, 8) := by kernel_rfl

theorem u64s_one (l : List Int) : ∀ u ∈ u64s l, u.oneCell' = true := by
  intro u hu
  simp only [u64s, List.mem_map] at hu
  obtain ⟨x, -, rfl⟩ := hu
  rfl

/-- What Clone leaves. -/
def Cloned (w : World) (xs : List Int) (e : Ending) (w' : World) : Prop :=
  ∃ v g, e = .returned v ∧ Owns w' v g 40 1 xs.length (u64s xs) ∧ (xs.length ≠ 0 → w.heap.size ≤ g ∧ g < w'.heap.size) ∧ Keeps [] w w'

set_option maxHeartbeats 1000000 in
theorem clone_at {w : World} {v : Value} {g : Nat} {xs : List Int} (h : Reads w v g (u64s xs)) (hn : xs.length ≤ 10000) :
    Calls Try.prog 38 #[v] w (Cloned w xs) := by
  obtain ⟨a, cap, rfl, h1, h2, h3⟩ := h
  have e1 := fun (wz : World) (a : Option Addr) (n c : Nat) => Lib.run_eql_slice_nil (P := Try.prog) wz 32 40 a n c 0 0 Try.underlying32
  cases a with
  | none =>
    have hz : xs = [] := by
      by_cases hx : u64s xs = []
      · cases xs <;> simp_all [u64s]
      · obtain ⟨-, off, ho, -⟩ := h3 hx; cases ho
    subst hz
    clear h3
    go_enter Try.func38, Try.ntmps38
    go_wp2_with fail
    go_ret
    exact ⟨_, 0, rfl, Owns.nil _ _ _ _, fun h => absurd rfl h, Keeps.refl _ _⟩
  | some ad =>
    obtain ⟨i0, hi, hz0, hz1, hz2⟩ := info_parts Try.info_u64
    have hcell : ∀ j u, (u64s xs)[j]? = some u → (w.alloc (.cells #[] 40)).cell? (ad.add j) = some u := by
      intro j u hu
      have hj : j < (u64s xs).length := (List.getElem?_eq_some_iff.1 hu).1
      obtain ⟨hg, off, ho, hc⟩ := h3 (by intro e; rw [e] at hj; simp at hj)
      cases ho
      have hadd : (⟨g, off, none⟩ : Addr).add j = ⟨g, off + j, none⟩ := by unfold Addr.add; split <;> simp_all
      rw [hadd, World.cell?_of_block (w := w) (Below.heap_alloc _ _ _ hg), hc j hj, hu]
    have hown : (w.alloc (.cells #[] 40)).ownsRow w.heap.size 40 1 (.slice (some ⟨w.heap.size, 0, none⟩) 0 0) 0 [] := World.ownsRow_made w #[] 0 (Nat.le_refl _) (by simp [maxLen]) (by simp)
    have HC := Lib.hid hcell
    have HO := Lib.hid hown
    clear hcell hown h3
    rw [u64s_len] at h1 ⊢
    go_enter Try.func38, Try.ntmps38
    go_wp2_with (at_builtin; refine wpList_append_own _ rfl _ _ 32 rfl w.heap.size 40 i0 (.int .u64 0) 1 8 Try.underlying32 hi hz0 hz1 hz2 rfl (by decide) (.slice (some ⟨w.heap.size, 0, none⟩) 0 0) _ _ rfl HO.out ad xs.length cap (u64s xs) rfl (by rw [u64s_len]; omega) HC.out (u64s_one xs) (by unfold maxLen; omega) (by omega) (by simp) ?_; intro v' w1 hown' hgrow _)
    obtain ⟨g', ho, hg'⟩ := Owns.of_row hown'
    have H : Cloned w xs (.returned v') w1 := by
      refine ⟨v', g', rfl, by simpa using ho, fun hne => ?_, ?_⟩
      · have := hg' (by omega)
        exact ⟨this.1, ((by simpa using ho : Owns w1 v' g' 40 1 xs.length (u64s xs)).cell hne).1⟩
      · have hk := Keeps.of_grown (l := []) (((World.grownBy_alloc w (.cells #[] 40) none))) (by simp)
        have hk2 : Keeps [w.heap.size] (w.alloc (.cells #[] 40)) w1 := Keeps.of_grown hgrow (by intro k hk; simp [Value.ownBlock] at hk; subst hk; simp)
        exact hk.trans hk2 (by simp)
    have HH := Lib.hid H
    clear hown' hgrow ho hg' H
    go_wp2_with fail
    go_ret
    exact HH.out

/-- What Of leaves: a new memory of such words. -/
def Made (w : World) (xs : List Int) (e : Ending) (w' : World) : Prop :=
  ∃ b gn gl gf, e = .returned (.pointer (some ⟨b, 0, none⟩)) ∧ PmAt w' b gn gl gf { now := xs, last := xs, fl := List.replicate ((xs.length + 7) / 8 * 8) false, deeds := 0, fused := false, left := 0 } ∧
    (w.heap.size ≤ b ∧ w.heap.size ≤ gn ∧ w.heap.size ≤ gl ∧ w.heap.size ≤ gf) ∧ Keeps [] w w'

theorem made_of {w W : World} {v1 v2 v3 : Value} {g1 g2 g3 : Nat} {xs : List Int} (hn : xs.length ≤ 10000) (hk : Keeps [] w W) (o1 : Owns W v1 g1 40 1 xs.length (u64s xs)) (o2 : Owns W v2 g2 40 1 xs.length (u64s xs))
    (o3 : Owns W v3 g3 75 8 ((xs.length + 7) / 8) (bools (List.replicate ((xs.length + 7) / 8 * 8) false)))
    (hz : xs.length ≠ 0 → (w.heap.size ≤ g1 ∧ w.heap.size ≤ g2 ∧ w.heap.size ≤ g3) ∧ g1 ≠ g2 ∧ g1 ≠ g3 ∧ g2 ≠ g3) :
    Made w xs (.returned (.pointer (some ⟨W.heap.size, 0, none⟩))) (W.alloc (.cells #[v1, v2, v3, .int .i64 0, .bool false, .int .i64 0] 63)) := by
  have hsz := hk.size
  by_cases h0 : xs.length = 0
  · refine ⟨W.heap.size, W.heap.size, W.heap.size, W.heap.size, rfl, ⟨hn, rfl, by simp, fun h => absurd h0 h, v1, v2, v3, Blk.new _ _ _, ?_, ?_, ?_⟩, ⟨hsz, hsz, hsz, hsz⟩, hk.alloc _⟩
    · exact (o1.alloc _).anyG h0 _
    · exact (o2.alloc _).anyG h0 _
    · exact (o3.alloc _).anyG (by omega) _
  · obtain ⟨⟨a1, a2, a3⟩, a4, a5, a6⟩ := hz h0
    have l1 := (o1.cell h0).1
    have l2 := (o2.cell h0).1
    have l3 := (o3.cell (by omega)).1
    exact ⟨W.heap.size, g1, g2, g3, rfl, ⟨hn, rfl, by simp, fun _ => ⟨⟨by omega, by omega, by omega⟩, a4, a5, a6⟩, v1, v2, v3, Blk.new _ _ _, o1.alloc _, o2.alloc _, o3.alloc _⟩, ⟨hsz, a1, a2, a3⟩, hk.alloc _⟩

theorem made_marks (n : Nat) : (madeCells (Array.replicate 8 (Value.bool false)) (n * 8)).toList = bools (List.replicate (n * 8) false) := by
  have := zeroCells_bools n
  simpa [Builtin.zeroCells, madeCells, Value.cells] using this

theorem owns_made {w : World} {q : Nat} {mc : Array Value} (hq : q ≤ 1250) (hm : mc.toList = bools (List.replicate (q * 8) false)) :
    Owns (w.alloc (.cells mc 75)) (.slice (some ⟨w.heap.size, 0, none⟩) q q) w.heap.size 75 8 q (bools (List.replicate (q * 8) false)) := by
  have hs : mc.size = q * 8 := by rw [← Array.length_toList, hm]; simp [bools]
  refine ⟨by simp [bools], _, q, rfl, Nat.le_refl _, by unfold maxLen; omega, fun _ => ⟨rfl, mc, Blk.new _ _ _, hs, ?_⟩⟩
  rw [← hm, List.take_of_length_le (by rw [Array.length_toList]; omega)]

set_option maxHeartbeats 1000000 in
theorem of_at {w : World} {v : Value} {g : Nat} {xs : List Int} (h : Reads w v g (u64s xs)) (hn : xs.length ≤ 10000) :
    Calls Try.prog 20 #[v] w (Made w xs) := by
  have H3 := Lib.hid h
  obtain ⟨a, cap, rfl, h1, h2, h3⟩ := h
  clear h3
  rw [u64s_len] at *
  unfold maxLen at h2
  go_enter Try.func20, Try.ntmps20
  go_wp2_with fail
  have hmk : ∀ wz : World, (Instr.makeSlice 61 (.int .i64 (((xs.length : Int) + 8 - 1) / 8)) (.int .i64 (((xs.length : Int) + 8 - 1) / 8))).run Try.prog wz =
      .ok (.slice (some ⟨wz.heap.size, 0, none⟩) ((xs.length + 7) / 8) ((xs.length + 7) / 8)) (wz.alloc (.cells (madeCells (Array.replicate 8 (.bool false)) ((xs.length + 7) / 8 * 8)) 75)) := fun wz => by
    obtain ⟨i0, hi, hz0, hz1, hz2⟩ := info_parts Try.info_marks
    have := run_make (P := Try.prog) wz 61 75 i0 _ Try.underlying61 hi hz0 .i64 .i64 (((xs.length : Int) + 8 - 1) / 8) (((xs.length : Int) + 8 - 1) / 8) (by omega) (by omega) (by rw [hz2]; omega) (by omega)
    rw [hz1, show (((xs.length : Int) + 8 - 1) / 8).toNat = (xs.length + 7) / 8 by omega] at this
    exact this
  obtain ⟨mc, hmc⟩ : ∃ mc, mc = madeCells (Array.replicate 8 (.bool false)) ((xs.length + 7) / 8 * 8) := ⟨_, rfl⟩
  have HMC : Hid (mc.toList = bools (List.replicate ((xs.length + 7) / 8 * 8) false)) := by rw [hmc]; exact made_marks _
  rw [← hmc] at hmk
  clear hmc
  go_region_with (go_at_call 38; refine (clone_at (g := g) (xs := xs) (H3.out.keep (l := []) ?hk (by simp)) hn).mono ?_; (case hk => (repeat (first | exact Keeps.refl _ _ | assumption | refine Keeps.drew ?_ | refine Keeps.alloc ?_ _ | refine Keeps.trans (l' := []) ?_ (by assumption) (by simp)))); rintro e w' ⟨v1, g1, rfl, o1, z1, k1⟩; obtain ⟨a1, c1, rfl, _, _⟩ := o1.val; (have O1 := Lib.hid o1); clear o1)
  all_goals go_wp2_with fail
  all_goals go_ret
  · rename_i w1 g2 z2 k2 a2 c2 _ _ O2 _ _
    have hd : Keeps [] w w.drew := (Keeps.refl _ _).drew
    have hw : w.drew.heap.size = w.heap.size := rfl
    have M := made_of (w := w) hn (((hd.trans k2 (by simp)).trans k1 (by simp)).alloc (.cells mc 75)) ((O2.out.keep k1 (by simp)).alloc _) (O1.out.alloc _) (owns_made (by omega) HMC.out) (fun h => by
      have y2 := z2 h
      have y1 := z1 h
      have := k2.size
      have := k1.size
      refine ⟨⟨?_, ?_, ?_⟩, ?_, ?_, ?_⟩ <;> omega)
    rw [show (w'.alloc (.cells mc 75)).heap.size = w'.heap.size + 1 by simp] at M
    exact M
  · rename_i w1 g2 z2 k2 a2 c2 _ _ O2 _ _
    have hd : Keeps [] w w.drew := (Keeps.refl _ _).drew
    have hw : w.drew.heap.size = w.heap.size := rfl
    have hs : (w1.alloc (.cells mc 75)).heap.size = w1.heap.size + 1 := by simp
    exact made_of (w := w) hn (((hd.trans k2 (by simp)).alloc (.cells mc 75)).trans k1 (by simp)) ((O2.out.alloc (.cells mc 75)).keep k1 (by simp)) O1.out ((owns_made (w := w1) (by omega) HMC.out).keep k1 (by simp)) (fun h => by
      have y2 := z2 h
      have y1 := z1 h
      have := k2.size
      have := k1.size
      refine ⟨⟨?_, ?_, ?_⟩, ?_, ?_, ?_⟩ <;> omega)
  · rename_i w1 g2 z2 k2 a2 c2 _ _ O2 _ _
    have hd : Keeps [] w w.drew := (Keeps.refl _ _).drew
    have hw : w.drew.heap.size = w.heap.size := rfl
    have hs : (w.alloc (.cells mc 75)).drew.heap.size = w.heap.size + 1 := by
      show (w.alloc (.cells mc 75)).heap.size = _
      simp
    have hd2 : Keeps [] w (w.alloc (.cells mc 75)).drew := ((Keeps.refl _ _).alloc _).drew
    exact made_of (w := w) hn ((hd2.trans k2 (by simp)).trans k1 (by simp)) (O2.out.keep k1 (by simp)) O1.out (((owns_made (w := w) (by omega) HMC.out).drew.keep k2 (by simp)).keep k1 (by simp)) (fun h => by
      have y2 := z2 h
      have y1 := z1 h
      have := k2.size
      have := k1.size
      refine ⟨⟨?_, ?_, ?_⟩, ?_, ?_, ?_⟩ <;> omega)

/-- So many words New makes. -/
def newN (n : Int) : Nat := (min (max n 0) 10000).toNat

theorem newN_le (n : Int) : newN n ≤ 10000 := by unfold newN; omega

theorem Made.weaken {w w1 : World} {xs : List Int} {e : Ending} {w' : World} (h : Made w1 xs e w') (hk : Keeps [] w w1) : Made w xs e w' := by
  obtain ⟨b, gn, gl, gf, h1, h2, ⟨h3, h4, h5, h6⟩, h7⟩ := h
  have := hk.size
  exact ⟨b, gn, gl, gf, h1, h2, ⟨by omega, by omega, by omega, by omega⟩, hk.trans h7 (by simp)⟩

theorem u64s_zero (n : Nat) : List.replicate n (Value.int .u64 0) = u64s (List.replicate n 0) := by simp [u64s]

set_option maxHeartbeats 1000000 in
theorem new_at (w : World) (n : Int) :
    Calls Try.prog 9 #[.int .i64 n] w (Made w (List.replicate (newN n) 0)) := by
  obtain ⟨i0, hi, hz0, hz1, hz2⟩ := info_parts Try.info_u64
  have hq := newN_le n
  have hmk : (Instr.makeSlice 32 (.int .i64 (newN n : Int)) (.int .i64 (newN n : Int))).run Try.prog w =
      .ok (.slice (some ⟨w.heap.size, 0, none⟩) (newN n) (newN n)) (w.alloc (.cells (madeCells #[.int .u64 0] (newN n)) 40)) := by
    have := run_make (P := Try.prog) w 32 40 i0 _ Try.underlying32 hi hz0 .i64 .i64 (newN n : Int) (newN n : Int) (by omega) (by omega) (by rw [hz2]; omega) (by omega)
    rw [hz1, Int.toNat_natCast, Nat.mul_one] at this
    exact this
  have hr : Reads (w.alloc (.cells (madeCells #[.int .u64 0] (newN n)) 40)) (.slice (some ⟨w.heap.size, 0, none⟩) (newN n) (newN n)) w.heap.size (u64s (List.replicate (newN n) 0)) := by
    refine Owns.reads (T := 40) (n := newN n) ⟨by simp [u64s], _, newN n, rfl, Nat.le_refl _, by unfold maxLen; omega, fun _ => ⟨rfl, _, Blk.new _ _ _, by simp [size_madeCells], ?_⟩⟩
    rw [toList_madeCells_one, u64s_zero, List.take_of_length_le (by simp [u64s])]
  have HO := Lib.hid ((of_at hr (by simpa using hq)).mono fun e w' h => h.weaken ((Keeps.refl _ w).alloc _))
  clear hr
  have hmin : ((newN n : Nat) : Int) = min (max n 0) 10000 := by unfold newN; omega
  generalize newN n = q at *
  rcases (show n < 0 ∨ (0 ≤ n ∧ n ≤ 10000) ∨ 10000 < n by omega) with h | ⟨h, h'⟩ | h
  · obtain rfl : q = 0 := by omega
    clear hmin hq
    simp only [Int.natCast_zero] at hmk
    go_enter Try.func9, Try.ntmps9
    go_wp2_with fail
    refine HO.out.mono ?_
    intro e w1 hM
    have HM := Lib.hid hM
    obtain ⟨b, gn, gl, gf, rfl, -, -, -⟩ := hM
    go_wp2_with fail
    go_ret
    exact HM.out
  · obtain rfl : n = (q : Int) := by omega
    clear hmin
    go_enter Try.func9, Try.ntmps9
    go_wp2_with fail
    refine HO.out.mono ?_
    intro e w1 hM
    have HM := Lib.hid hM
    obtain ⟨b, gn, gl, gf, rfl, -, -, -⟩ := hM
    go_wp2_with fail
    go_ret
    exact HM.out
  · obtain rfl : q = 10000 := by omega
    clear hmin hq
    simp only [show ((10000 : Nat) : Int) = 10000 from rfl] at hmk
    generalize madeCells #[Value.int .u64 0] 10000 = mc at *
    generalize List.replicate 10000 (0 : Int) = xs at *
    go_enter Try.func9, Try.ntmps9
    go_wp2_with fail
    refine HO.out.mono ?_
    intro e w1 hM
    have HM := Lib.hid hM
    obtain ⟨b, gn, gl, gf, rfl, -, -, -⟩ := hM
    go_wp2_with fail
    go_ret
    exact HM.out

end Go.Proofs.Ytopljfbgbiipiaa

/-
  Layer 4 (tx): Back.
-/
import Derived.Test.YtgbmjahjgmcdjaaTxC
import Derived.BigRegion
import Derived.Deep.LoopGhost
import Derived.StillTailTactics
namespace Go.Proofs.Ytgbmjahjgmcdjaa
open Go.RowKit

theorem ShRaw.setW {w : World} {b gp : Nat} {B X : List Int} {us : List (Int × Int)} (h : ShRaw w b gp B X us) (i : Nat) (hi : i < 3128) (x : Int) : ShRaw (w.setCell ⟨b, 3128 + i, none⟩ (.int .u64 x)) b gp B (X.set i x) us := by
  obtain ⟨lb, lx, vp, h1, h2, h3⟩ := h
  refine ⟨lb, by rw [List.length_set]; exact lx, vp, ?_, ?_, h3⟩
  · have := h1.set (3128 + i) (.int .u64 x)
    rwa [shCells_set1 _ lb (by omega)] at this
  · refine ownsRow_keep h2 (l := [b]) ((Keeps.refl [b] _).setCell (by simp) _) fun k hk => ?_
    have := ownsRow_block h2 k hk
    simp; omega

theorem ShRaw.drew {w : World} {b gp : Nat} {B X : List Int} {us : List (Int × Int)} (h : ShRaw w b gp B X us) : ShRaw w.drew b gp B X us := h.keep ((Keeps.refl [] w).drew) (by simp) (by simp)

/-- The notes' cells. -/
theorem ShRaw.note {w : World} {b gp : Nat} {B X : List Int} {us : List (Int × Int)} (h : ShRaw w b gp B X us) {k : Nat} (hk : k < us.length) :
    ∃ cap, w.cell? ⟨b, 6256, none⟩ = some (.slice (some ⟨gp, 0, none⟩) us.length cap) ∧ us.length ≤ cap ∧ cap ≤ maxLen ∧ w.cell? ⟨gp, k * 2, none⟩ = some (.int .i64 (patN us k)) ∧ w.cell? ⟨gp, k * 2 + 1, none⟩ = some (.int .u64 (pwdN us k)) := by
  obtain ⟨lb, lx, vp, h1, h2, h3⟩ := h
  obtain ⟨g, ho, hg⟩ := Owns.of_row h2
  obtain ⟨hlt, ⟨cap, hv, q1, q2⟩, hc, -⟩ := ho.cell (by omega)
  obtain rfl : g = gp := h3 g (hg (by omega)).2
  subst hv
  refine ⟨cap, by rw [h1.cell, shCells_2 _ lb lx], q1, q2, ?_, ?_⟩
  · rw [hc _ (by omega)]; exact (pcells_get us k hk).1
  · rw [hc _ (by omega)]; exact (pcells_get us k hk).2

theorem ShRaw.slice {w : World} {b gp : Nat} {B X : List Int} {us : List (Int × Int)} (h : ShRaw w b gp B X us) :
    ∃ a cap, w.cell? ⟨b, 6256, none⟩ = some (.slice a us.length cap) ∧ w.frozen? ⟨b, 6256, none⟩ = false ∧ us.length ≤ cap ∧ cap ≤ maxLen := by
  obtain ⟨lb, lx, vp, h1, h2, h3⟩ := h
  obtain ⟨a, cap, rfl, q1, q2⟩ := ownsRow_val h2
  exact ⟨a, cap, by rw [h1.cell, shCells_2 _ lb lx], h1.frozen _, q1, q2⟩

theorem pcells_take (us : List (Int × Int)) (m : Nat) (h : m ≤ us.length) : (pcells us).take (m * 2) = pcells (us.take m) := by
  have e : pcells us = pcells (us.take m) ++ pcells (us.drop m) := by rw [← pcells_append, List.take_append_drop]
  rw [e, List.take_left' (by rw [pcells_len, List.length_take, Nat.min_eq_left h])]

/-- s.puts = s.puts[:m]. -/
theorem ShRaw.cut {w : World} {b gp : Nat} {B X : List Int} {us : List (Int × Int)} (h : ShRaw w b gp B X us) (m : Nat) (hm : m ≤ us.length) {a : Option Addr} {n cap : Nat} (hc : w.cell? ⟨b, 6256, none⟩ = some (.slice a n cap)) :
    ShRaw (w.setCell ⟨b, 6256, none⟩ (.slice a m cap)) b gp B X (us.take m) := by
  obtain ⟨lb, lx, vp, h1, h2, h3⟩ := h
  rw [h1.cell, shCells_2 _ lb lx] at hc
  cases hc
  refine ⟨lb, lx, .slice a m cap, ?_, ?_, ?_⟩
  · have := h1.set 6256 (.slice a m cap)
    rwa [shCells_set2 _ lb lx] at this
  · have hk : Keeps [b] w (w.setCell ⟨b, 6256, none⟩ (.slice a m cap)) := (Keeps.refl [b] _).setCell (by simp) _
    obtain ⟨h4, h5⟩ := h2
    rw [List.length_take, Nat.min_eq_left hm]
    refine ⟨by rw [pcells_len, List.length_take, Nat.min_eq_left hm], ?_⟩
    rcases h5 with ⟨e, e'⟩ | ⟨g, cap', cur, e, hg, hh, q2, q3, q4, q5⟩
    · cases e
      obtain rfl : m = 0 := by omega
      exact .inl ⟨rfl, rfl⟩
    · cases e
      refine .inr ⟨g, cap, cur, rfl, hg, ?_, by omega, q3, q4, ?_⟩
      · rw [← hh]
        exact hk.block g (Array.getElem?_eq_some_iff.1 hh).1 (by simp; omega)
      · rw [← pcells_take _ _ hm, ← q5, List.take_take, Nat.min_eq_left (by omega)]
  · intro k hk
    cases a with
    | none => cases hk
    | some ad => exact h3 k hk

def BackPost (w : World) (b gp : Nat) (B : List Int) (ps : List (Int × Int)) (e : Ending) (w' : World) : Prop :=
  e = .returned (.tuple #[]) ∧ ShAt w' b gp B ps ∧ Keeps [b] w w'

set_option maxRecDepth 100000 in
set_option maxHeartbeats 4000000 in
theorem txBack_at {w : World} {b gp : Nat} {B : List Int} {ps : List (Int × Int)} (h : ShAt w b gp B ps) (m : Int) :
    Calls Try.prog 10 #[.pointer (some ⟨b, 0, none⟩), .int .i64 m] w (BackPost w b gp B (ps.take (backN m ps.length))) := by
  have HIN := Lib.hid h.inp
  have HRAW : Hid (ShRaw w b gp B (putAll B (ps.take ps.length)) (notesN B ps)) := by rw [List.take_of_length_le (Nat.le_refl _)]; exact h.raw
  obtain ⟨a, cap, c0, f0, q1, q2⟩ := h.raw.slice
  have hm := backN_le m ps.length
  have hmm := backN_int m ps.length
  clear h
  rw [notesN_len] at *
  unfold maxLen at q2
  generalize backN m ps.length = q at *
  generalize hps : ps.length = n at *
  have HPS := Lib.hid hps
  clear hps
  have HNL : Hid ((notesN B ps).length = n) := by rw [← HPS.out]; exact notesN_len B ps
  have hcase : (m < 0 ∧ q = 0) ∨ (0 ≤ m ∧ m ≤ (n : Int) ∧ m = (q : Int)) ∨ ((n : Int) < m ∧ 0 ≤ m ∧ q = n) := by omega
  clear hmm
  rcases hcase with ⟨k1, rfl⟩ | ⟨k1, k2, rfl⟩ | ⟨k1, k2, rfl⟩
  · go_enter Try.func10, Try.ntmps10
    go_wp2_with fail
    clear c0 f0
    go_loopg [5] (n - 0) (fun gh s5 wx => ∃ k : Nat, k = 0 + gh ∧ k ≤ n ∧ s5 = .int .i64 ((k : Int) - 1) ∧ Hid (ShRaw wx b gp B (putAll B (ps.take k)) (notesN B ps) ∧ Keeps [b] w wx))
    case atStart => exact ⟨n, by omega, by omega, rfl, HRAW.out, Keeps.refl _ _⟩
    case round =>
      obtain ⟨k, hk, hkn, rfl, HR⟩ := hrel
      cases gk with
      | zero =>
        obtain rfl : k = 0 := by omega
        have hlt : ¬ ((0 : Int) ≤ ((0 : Nat) : Int) - 1) := by omega
        obtain ⟨hr, hkp⟩ := HR.out
        obtain ⟨a, cap, c0, f0, q1, q2⟩ := hr.slice
        have HC := Lib.hid (hr.cut 0 (by rw [HNL.out]; omega) c0)
        rw [HNL.out] at c0 q1
        unfold maxLen at q2
        rw [notesN_take _ _ _ (by rw [HPS.out]; omega)] at HC
        have HT := Lib.hid (inP_take HIN.out 0)
        have HKP := Lib.hid hkp
        have b1 : (0 : Int) ≤ (n : Int) := by omega
        have b2 : (0 : Int) ≤ (cap : Int) := by omega
        clear hr hkp HR hk
        go_wp2_with fail
        go_end0
        exact ⟨rfl, ⟨HC.out, HT.out⟩, HKP.out.setCell (by simp) _⟩
      | succ g =>
        obtain ⟨k, rfl⟩ : ∃ k', k = k' + 1 := ⟨k - 1, by omega⟩
        have ek : ((k + 1 : Nat) : Int) - 1 = (k : Int) := by omega
        rw [ek]
        clear ek
        have hlt : (0 : Int) ≤ (k : Int) := by omega
        have hk0 : (0 : Int) ≤ (k : Int) := by omega
        have hk1 : (k : Int) < (n : Int) := by omega
        obtain ⟨hr, hkp⟩ := HR.out
        obtain ⟨cap', c0, q1, q2, c1, c2⟩ := hr.note (k := k) (by rw [HNL.out]; omega)
        obtain ⟨e1, e2⟩ := notesN_get B ps k (by rw [HPS.out]; omega)
        obtain ⟨x0, x1⟩ := inP_get HIN.out (k := k) (by rw [HPS.out]; omega)
        have HU := Lib.hid (undo_put B ps k (by rw [HPS.out]; omega))
        rw [e1] at c1
        rw [e2] at c2
        clear e1 e2
        rw [HNL.out] at c0 q1
        unfold maxLen at q2
        generalize patN ps k = x at *
        generalize (putAll B (ps.take k)).getD x.toNat 0 = was at *
        obtain ⟨j, rfl⟩ := Int.eq_ofNat_of_zero_le x0
        rw [Int.toNat_natCast] at HU
        have x2 : (j : Int) < 3128 := x1
        have hj : j < 3128 := by omega
        have d1 := hr.cell1 hj
        have d2 : wr.frozen? ⟨b, 3128 + j, none⟩ = false := by obtain ⟨lb, lx, vp, h1, h2, h3⟩ := hr; exact h1.frozen _
        have HS := Lib.hid (hr.drew.setW j hj was)
        have HKP := Lib.hid hkp
        generalize (putAll B (ps.take (k + 1))).getD j 0 = old at *
        clear hr hkp HR x1
        go_wp2_with fail
        go_still_tail 20, (by kernel_rfl)
        go_wp2_with fail
        go_roundg g
        case measure => omega
        case rel =>
          refine ⟨k, by omega, by omega, by first | rfl | go_num, ?_, HKP.out.drew.setCell (by simp) _⟩
          have := HS.out
          rw [HU.out] at this
          exact this
  · go_enter Try.func10, Try.ntmps10
    go_wp2_with fail
    clear c0 f0
    go_loopg [5] (n - q) (fun gh s5 wx => ∃ k : Nat, k = q + gh ∧ k ≤ n ∧ s5 = .int .i64 ((k : Int) - 1) ∧ Hid (ShRaw wx b gp B (putAll B (ps.take k)) (notesN B ps) ∧ Keeps [b] w wx))
    case atStart => exact ⟨n, by omega, by omega, rfl, HRAW.out, Keeps.refl _ _⟩
    case round =>
      obtain ⟨k, hk, hkn, rfl, HR⟩ := hrel
      cases gk with
      | zero =>
        obtain rfl : q = k := by omega
        have hlt : ¬ ((q : Int) ≤ (q : Int) - 1) := by omega
        obtain ⟨hr, hkp⟩ := HR.out
        obtain ⟨a, cap, c0, f0, q1, q2⟩ := hr.slice
        have HC := Lib.hid (hr.cut q (by rw [HNL.out]; omega) c0)
        rw [HNL.out] at c0 q1
        unfold maxLen at q2
        rw [notesN_take _ _ _ (by rw [HPS.out]; omega)] at HC
        have HT := Lib.hid (inP_take HIN.out q)
        have HKP := Lib.hid hkp
        have b1 : (q : Int) ≤ (n : Int) := by omega
        have b2 : (q : Int) ≤ (cap : Int) := by omega
        clear hr hkp HR hk
        go_wp2_with fail
        go_end0
        exact ⟨rfl, ⟨HC.out, HT.out⟩, HKP.out.setCell (by simp) _⟩
      | succ g =>
        obtain ⟨k, rfl⟩ : ∃ k', k = k' + 1 := ⟨k - 1, by omega⟩
        have ek : ((k + 1 : Nat) : Int) - 1 = (k : Int) := by omega
        rw [ek]
        clear ek
        have hlt : (q : Int) ≤ (k : Int) := by omega
        have hk0 : (0 : Int) ≤ (k : Int) := by omega
        have hk1 : (k : Int) < (n : Int) := by omega
        obtain ⟨hr, hkp⟩ := HR.out
        obtain ⟨cap', c0, q1, q2, c1, c2⟩ := hr.note (k := k) (by rw [HNL.out]; omega)
        obtain ⟨e1, e2⟩ := notesN_get B ps k (by rw [HPS.out]; omega)
        obtain ⟨x0, x1⟩ := inP_get HIN.out (k := k) (by rw [HPS.out]; omega)
        have HU := Lib.hid (undo_put B ps k (by rw [HPS.out]; omega))
        rw [e1] at c1
        rw [e2] at c2
        clear e1 e2
        rw [HNL.out] at c0 q1
        unfold maxLen at q2
        generalize patN ps k = x at *
        generalize (putAll B (ps.take k)).getD x.toNat 0 = was at *
        obtain ⟨j, rfl⟩ := Int.eq_ofNat_of_zero_le x0
        rw [Int.toNat_natCast] at HU
        have x2 : (j : Int) < 3128 := x1
        have hj : j < 3128 := by omega
        have d1 := hr.cell1 hj
        have d2 : wr.frozen? ⟨b, 3128 + j, none⟩ = false := by obtain ⟨lb, lx, vp, h1, h2, h3⟩ := hr; exact h1.frozen _
        have HS := Lib.hid (hr.drew.setW j hj was)
        have HKP := Lib.hid hkp
        generalize (putAll B (ps.take (k + 1))).getD j 0 = old at *
        clear hr hkp HR x1
        go_wp2_with fail
        go_still_tail 20, (by kernel_rfl)
        go_wp2_with fail
        go_roundg g
        case measure => omega
        case rel =>
          refine ⟨k, by omega, by omega, by first | rfl | go_num, ?_, HKP.out.drew.setCell (by simp) _⟩
          have := HS.out
          rw [HU.out] at this
          exact this
  · go_enter Try.func10, Try.ntmps10
    go_wp2_with fail
    clear c0 f0
    go_loopg [5] (q - q) (fun gh s5 wx => ∃ k : Nat, k = q + gh ∧ k ≤ q ∧ s5 = .int .i64 ((k : Int) - 1) ∧ Hid (ShRaw wx b gp B (putAll B (ps.take k)) (notesN B ps) ∧ Keeps [b] w wx))
    case atStart => exact ⟨q, by omega, by omega, rfl, HRAW.out, Keeps.refl _ _⟩
    case round =>
      obtain ⟨k, hk, hkn, rfl, HR⟩ := hrel
      cases gk with
      | zero =>
        obtain rfl : q = k := by omega
        have hlt : ¬ ((q : Int) ≤ (q : Int) - 1) := by omega
        obtain ⟨hr, hkp⟩ := HR.out
        obtain ⟨a, cap, c0, f0, q1, q2⟩ := hr.slice
        have HC := Lib.hid (hr.cut q (by rw [HNL.out]; omega) c0)
        rw [HNL.out] at c0 q1
        unfold maxLen at q2
        rw [notesN_take _ _ _ (by rw [HPS.out]; omega)] at HC
        have HT := Lib.hid (inP_take HIN.out q)
        have HKP := Lib.hid hkp
        have b1 : (q : Int) ≤ (q : Int) := by omega
        have b2 : (q : Int) ≤ (cap : Int) := by omega
        clear hr hkp HR hk
        go_wp2_with fail
        go_end0
        exact ⟨rfl, ⟨HC.out, HT.out⟩, HKP.out.setCell (by simp) _⟩
      | succ g => omega

end Go.Proofs.Ytgbmjahjgmcdjaa

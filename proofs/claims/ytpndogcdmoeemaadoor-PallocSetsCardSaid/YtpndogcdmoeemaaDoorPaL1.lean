/-
  Layer 5: awake.
-/
import Derived.Test.YtpndogcdmoeemaaDoorPaH
namespace Go.Proofs.YtpndogcdmoeemaaDoor
open Go.RowKit

theorem size_w4 : (Tryd.prog.info? 23).map (·.size) = some 4 := by kernel_rfl

/-- The array is loaded whole. -/
theorem load_w4 {w : World} {g : Nat} {ws : List Nat} (hb : Blk w g (w4 ws) 23) : (loadVar 23 ⟨g, 0, none⟩).run Tryd.prog w = .ok (.agg (w4 ws)) w := by
  have := run_loadVar_cells (P := Tryd.prog) (w := w) g 0 (w4 ws).toList Tryd.underlying23 rfl (by rw [size_w4]; rfl) fun j hj => by
    rw [Nat.zero_add, hb.cell, Array.getElem?_toList]
  simpa using this

theorem free_zero : (freeL (padW [])).take 2 = [1, 2] ∧ 2 ≤ (freeL (padW [])).length := by decide +kernel

theorem padW_64 : In64 (padW []) := fun i => by
  rw [padW_get]
  split <;> simp

theorem ints_cell {w : World} {v : Value} {g : Nat} {l : List Nat} (h : Reads w v g (i64s l)) : ∃ a cap, v = .slice a l.length cap ∧ l.length ≤ cap ∧ cap ≤ maxLen ∧
    Hid (∀ k, k < l.length → g < w.heap.size ∧ ∃ off, a = some ⟨g, off, none⟩ ∧ w.cell? ⟨g, off + k, none⟩ = some (.int .i64 ((l.getD k 0 : Nat) : Int))) := by
  obtain ⟨a, cap, h0, h1, h2, h3⟩ := h
  rw [i64s_len] at *
  refine ⟨a, cap, h0, h1, h2, fun k hk => ?_⟩
  obtain ⟨hg, off, ho, hc⟩ := h3 (by intro e; have := congrArg List.length e; rw [i64s_len, List.length_nil] at this; omega)
  exact ⟨hg, off, ho, (hc k hk).trans (i64s_get hk)⟩

set_option maxHeartbeats 2000000 in
theorem paAwake_at (w : World) (hT : TabAt w) : Calls Tryd.prog 5 #[] w fun e w' => e = .returned (.bool true) ∧ Keeps [] w w' := by
  have HN := Lib.hid (txNew_at (w := w) (v := .slice none 0 0) (g := 0) (ws := []) ⟨none, 0, rfl, by simp [u64s], by simp [maxLen], fun h => absurd rfl h⟩)
  have HT := Lib.hid hT
  obtain ⟨hz1, hz2⟩ := free_zero
  have HZ1 := Lib.hid hz1
  have HZ2 := Lib.hid hz2
  have H64 := Lib.hid padW_64
  have HPL := Lib.hid (padW_len [])
  clear hT hz1 hz2
  generalize padW [] = B at *
  go_enter Tryd.func5, Tryd.ntmps5
  go_wp2_with fail
  refine HN.out.mono ?_
  rintro e w1 ⟨b, rfl, hlo, hs, hk⟩
  have HTK : Hid (Calls Tryd.prog 8 #[.pointer (some ⟨b, 0, none⟩), .int .i64 2] w1 (TakePost w1 b b B [] [1, 2])) := by
    have := paTake_ok (n := 2) hs H64.out (HT.out.keep hk) hs.raw.lt (by simp) HZ2.out
    rw [show (freeL (putAll B [])).take 2 = [1, 2] from HZ1.out] at this
    exact this
  have HLO := Lib.hid hlo
  have HK := Lib.hid hk
  clear hs hlo hk HN HZ1 HZ2
  go_wp2_with fail
  refine HTK.out.mono ?_
  rintro e w2 ⟨v, g, rfl, hr, hg1, hg2, gp', p1, p2, hs, hk2⟩
  obtain ⟨a, cap, rfl, q1, q2, HC⟩ := ints_cell hr
  obtain ⟨-, off, rfl, hc⟩ := HC.out 0 (by simp)
  have hc0 : w2.cell? ⟨g, off, none⟩ = some (.int .i64 1) := hc
  have HKK : Hid (Keeps [] w w2) := HK.out.trans hk2 fun x hx => by
    have := HLO.out
    have := HK.out.size
    simp only [List.mem_cons, List.not_mem_nil, or_false] at hx
    omega
  obtain ⟨st1, -, st3⟩ := takePs_state [1, 2] B H64.out HPL.out (by simp)
  have HU : Hid (Calls Tryd.prog 10 #[.pointer (some ⟨b, 0, none⟩), .int .i64 2] w2 (fun e w' => e = .returned (.bool true) ∧ w2 = w')) := by
    have := paUsed_at hs st1 2
    rw [show usedB (putAll B ([] ++ takePs (putAll B []) [1, 2])) 2 = true by
      have h3 := st3 2 (by omega)
      unfold usedB
      rw [if_pos (by decide)]
      refine Eq.trans h3 ?_
      simp] at this
    exact this
  unfold maxLen at q2
  clear hr hg1 p1 p2 hs hk2 HC hc st1 st3 HTK q1
  go_wp2_with fail
  refine HU.out.mono ?_; rintro e w' ⟨rfl, rfl⟩
  go_wp2_with fail
  go_ret
  exact ⟨rfl, HKK.out⟩

end Go.Proofs.YtpndogcdmoeemaaDoor

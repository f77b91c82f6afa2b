/-
  Layer 3 (plog): isPlace, allPlaces, wordsOf, commitWord.
-/
import Derived.Test.YtopljfbgbiipiaaPlA
namespace Go.Proofs.Ytopljfbgbiipiaa
open Go.RowKit

set_option maxHeartbeats 400000 in
theorem isPlace_at (x : Int) (h0 : 0 ≤ x) (w : World) : Calls Try.prog 40 #[.int .u64 x] w fun e w' => e = .returned (.bool (placeB x)) ∧ w = w' := by
  by_cases h1 : x < 3128
  · by_cases h2 : x < 8
    · rw [placeB_iff.2 ⟨h0, h1, .inl h2⟩]
      go_enter Try.func40, Try.ntmps40
      go_wp2_with fail
      go_ret
      exact ⟨rfl, rfl⟩
    · by_cases h3 : 816 ≤ x
      · rw [placeB_iff.2 ⟨h0, h1, .inr h3⟩]
        go_enter Try.func40, Try.ntmps40
        go_wp2_with fail
        go_ret
        exact ⟨rfl, rfl⟩
      · rw [show placeB x = false by rw [Bool.eq_false_iff, ne_eq, placeB_iff]; omega]
        go_enter Try.func40, Try.ntmps40
        go_wp2_with fail
        go_ret
        exact ⟨rfl, rfl⟩
  · rw [show placeB x = false by rw [Bool.eq_false_iff, ne_eq, placeB_iff]; omega]
    go_enter Try.func40, Try.ntmps40
    go_wp2_with fail
    go_ret
    exact ⟨rfl, rfl⟩

theorem placesB_succ (ws : List Int) (k : Nat) : placesB ws (k + 1) = (placesB ws k && placeB (ws.getD (2 * k) 0)) := by
  simp [placesB, List.range_succ, List.all_append]

theorem placesB_mono {ws : List Int} {k m : Nat} (h : placesB ws k = false) (hk : k ≤ m) : placesB ws m = false := by
  induction m with
  | zero => obtain rfl : k = 0 := by omega
            exact h
  | succ m ih =>
    rw [placesB_succ]
    by_cases e : k = m + 1
    · subst e
      rw [placesB_succ] at h
      exact h
    · rw [ih (by omega)]; rfl

theorem u64s_cell {w : World} {v : Value} {g : Nat} {xs : List Int} (h : Reads w v g (u64s xs)) : ∃ a cap, v = .slice a xs.length cap ∧ xs.length ≤ cap ∧ cap ≤ maxLen ∧
    Hid (∀ k, k < xs.length → g < w.heap.size ∧ ∃ off, a = some ⟨g, off, none⟩ ∧ w.cell? ⟨g, off + k, none⟩ = some (.int .u64 (xs.getD k 0))) := by
  obtain ⟨a, cap, h0, h1, h2, h3⟩ := h
  rw [u64s_len] at *
  refine ⟨a, cap, h0, h1, h2, fun k hk => ?_⟩
  obtain ⟨hg, off, ho, hc⟩ := h3 (by intro e; have := congrArg List.length e; rw [u64s_len, List.length_nil] at this; omega)
  exact ⟨hg, off, ho, (hc k hk).trans (u64s_get hk)⟩

set_option maxHeartbeats 1000000 in
theorem allPlaces_at {w : World} {v : Value} {g : Nat} {ws : List Int} (h : Reads w v g (u64s ws)) (hx : u64P ws) (m : Nat) (hm : ws.length = 2 * m) (hm9 : m ≤ 100000) :
    Calls Try.prog 26 #[v] w fun e w' => e = .returned (.bool (placesB ws m)) ∧ w = w' := by
  obtain ⟨a, cap, rfl, h1, h2, H3⟩ := u64s_cell h
  unfold maxLen at h2
  have HX := Lib.hid hx
  have HM := Lib.hid hm
  rw [hm] at h1 ⊢
  clear h hx hm
  go_enter Try.func26, Try.ntmps26
  go_wp2_with fail
  go_loopg [3] m (fun g s3 wx => ∃ k : Nat, k + g = m ∧ s3 = .int .i64 ((2 * k : Nat) : Int) ∧ Hid (placesB ws k = true) ∧ wx = w)
  case atStart => exact ⟨0, by omega, rfl, rfl, rfl⟩
  case round =>
    obtain ⟨k, hk, rfl, HP, rfl⟩ := hrel
    cases gk with
    | zero =>
      obtain rfl : k = m := by omega
      have hlt : ¬ ((2 * k : Nat) : Int) < ((2 * k : Nat) : Int) := by omega
      go_wp2_with fail
      go_ret
      exact ⟨by rw [HP.out]; rfl, rfl⟩
    | succ gg =>
      have hlt : ((2 * k : Nat) : Int) < ((2 * m : Nat) : Int) := by omega
      obtain ⟨hg, off, rfl, hc⟩ := H3.out (2 * k) (by rw [HM.out]; omega)
      have HI := Lib.hid (fun wz => isPlace_at (ws.getD (2 * k) 0) (u64P_get HX.out _).1 wz)
      have HS := Lib.hid (placesB_succ ws k)
      have b0 : 0 ≤ ((2 * k : Nat) : Int) := by omega
      generalize ws.getD (2 * k) 0 = x at *
      cases hp : placeB x
      · rw [hp] at HI HS
        clear hp
        go_wp2_with (go_at_call 40; refine (HI.out _).mono ?_; rintro e w' ⟨rfl, rfl⟩)
        go_ret
        exact ⟨by rw [placesB_mono (k := k + 1) (by rw [HS.out]; simp) (by omega)]; rfl, rfl⟩
      · rw [hp] at HI HS
        clear hp
        go_wp2_with (go_at_call 40; refine (HI.out _).mono ?_; rintro e w' ⟨rfl, rfl⟩)
        go_roundg gg
        case measure => omega
        case rel => exact ⟨k + 1, by omega, by rw [show ((2 * (k + 1) : Nat) : Int) = 2 * (k : Int) + 2 by omega], by show placesB ws (k + 1) = true; rw [HS.out, HP.out]; rfl, rfl⟩

theorem or_mark (n s : Nat) (hn : n < 2147483648) (hs : s < 4294967296) : bits .or .u64 ((n : Int) / 2 * 4294967296) (s : Int) = (((n / 2 : Nat) : Int) * 4294967296 + (s : Int)) := by
  rw [show (n : Int) / 2 * 4294967296 = ((n / 2 * 4294967296 : Nat) : Int) by omega, u64_or_nat _ _ (by omega) (by omega), nat_join 32 _ _ (by exact Nat.mul_mod_left _ _) hs]
  omega

set_option maxHeartbeats 1000000 in
theorem commitWord_at {w : World} {v : Value} {g : Nat} {ws : List Int} (h : Reads w v g (u64s ws)) (hx : u64P ws) (hm9 : ws.length ≤ 100000) :
    Calls Try.prog 30 #[v] w fun e w' => e = .returned (.int .u64 (markN ws)) ∧ Keeps [] w w' := by
  have HS := Lib.hid (sum_atI h hx)
  obtain ⟨a, cap, rfl, h1, h2, -⟩ := u64s_cell h
  unfold maxLen at h2
  have hs := sumN_lt (ws.map Int.toNat)
  unfold markN
  have HO := Lib.hid (or_mark ws.length (sumN (ws.map Int.toNat)) (by omega) hs)
  generalize sumN (ws.map Int.toNat) = s at *
  clear h hx
  generalize ws.length = n at *
  go_enter Try.func30, Try.ntmps30
  go_wp2_with fail
  refine HS.out.mono ?_; rintro e w1 ⟨rfl, hk1⟩
  have HK := Lib.hid hk1
  clear hk1
  go_wp2_with fail
  go_ret
  refine ⟨?_, HK.out⟩
  rw [← HO.out]
  rfl

end Go.Proofs.Ytopljfbgbiipiaa

/-
  Layer 4: awake, and the law TxPlaces, walked.
-/
import Derived.Test.YtgbmjahjgmcdjaaTxC
import Derived.Test.YtgbmjahjgmcdjaaTxF
namespace Go.Proofs.Ytgbmjahjgmcdjaa
open Go.RowKit

set_option maxHeartbeats 1000000 in
theorem txAwake_at (w : World) : Calls Try.prog 5 #[] w fun e w' => e = .returned (.bool true) ∧ Keeps [] w w' := by
  have HN := Lib.hid (txNew_at (w := w) (v := .slice none 0 0) (g := 0) (ws := []) ⟨none, 0, rfl, by simp [u64s], by simp [maxLen], fun h => absurd rfl h⟩)
  have HG : Hid (getN (padW []) (putN [] 3 4) 3 = 4) := by show getN _ _ _ = _; decide +kernel
  have B1 : Hid (blockN 1 = 1088) := rfl
  have I1 : Hid (inodeN 1 = 832) := rfl
  generalize padW [] = B at *
  go_enter Try.func5, Try.ntmps5
  go_wp2_with fail
  refine HN.out.mono ?_
  rintro e w1 ⟨b, rfl, hlo, hs, hk⟩
  have HS := Lib.hid hs
  have HLO := Lib.hid hlo
  have HK := Lib.hid hk
  clear hs hlo hk
  go_wp2_with fail
  refine (txPut_at HS.out (by simp) 3 4).mono ?_
  rintro e w2 ⟨rfl, gp', -, hs2, hk2⟩
  have HS2 := Lib.hid hs2
  have HK2 := Lib.hid hk2
  clear hs2 hk2
  go_wp2_with fail
  refine (txGet_at HS2.out 3).mono ?_
  rintro e w' ⟨rfl, rfl⟩
  rw [HG.out]
  go_wp2_with fail
  refine (txBlock_at 1 _).mono ?_
  rintro e w' ⟨rfl, rfl⟩
  rw [B1.out]
  go_wp2_with fail
  refine (txInode_at 1 _).mono ?_
  rintro e w' ⟨rfl, rfl⟩
  rw [I1.out]
  go_wp2_with fail
  go_ret
  refine ⟨rfl, HK.out.trans HK2.out ?_⟩
  intro x hx
  have := HLO.out
  simp only [List.mem_cons, List.not_mem_nil, or_false] at hx
  omega

set_option maxHeartbeats 2000000 in
theorem txPlaces_at (n : Int) (w : World) : Calls Try.prog 4 #[.int .i64 n] w fun e w' => e = .returned (.bool true) ∧ Below w.heap.size w w' := by
  have HB := Lib.hid (txBlock_at n w)
  have HI := Lib.hid (txInode_at n w)
  have HA := Lib.hid (txAwake_at w)
  rcases (show n < 0 ∨ 256 ≤ n ∨ (0 ≤ n ∧ n < 32) ∨ (32 ≤ n ∧ n < 256) by omega) with h | h | ⟨h1, h2⟩ | ⟨h1, h2⟩
  · rw [show blockN n = -1 by rw [blockN, if_pos (by omega)]] at HB
    rw [show inodeN n = -1 by rw [inodeN, if_pos (by omega)]] at HI
    go_enter Try.func4, Try.ntmps4
    go_wp2_with fail
    refine HB.out.mono ?_; rintro e w' ⟨rfl, rfl⟩
    go_wp2_with fail
    refine HI.out.mono ?_; rintro e w' ⟨rfl, rfl⟩
    go_wp2_with fail
    refine HA.out.mono ?_; rintro e w1 ⟨rfl, hk⟩
    have HK := Lib.hid hk
    clear hk
    go_wp2_with fail
    go_ret
    exact ⟨rfl, HK.out.below (Nat.le_refl _) (by simp)⟩
  · have h0 : ¬ n < 0 := by omega
    rw [show blockN n = -1 by rw [blockN, if_pos (by omega)]] at HB
    rw [show inodeN n = -1 by rw [inodeN, if_pos (by omega)]] at HI
    go_enter Try.func4, Try.ntmps4
    go_wp2_with fail
    refine HB.out.mono ?_; rintro e w' ⟨rfl, rfl⟩
    go_wp2_with fail
    refine HI.out.mono ?_; rintro e w' ⟨rfl, rfl⟩
    go_wp2_with fail
    refine HA.out.mono ?_; rintro e w1 ⟨rfl, hk⟩
    have HK := Lib.hid hk
    clear hk
    go_wp2_with fail
    go_ret
    exact ⟨rfl, HK.out.below (Nat.le_refl _) (by simp)⟩
  · rw [show blockN n = 1080 + 8 * n by rw [blockN, if_neg (by omega)]; omega] at HB
    rw [show inodeN n = 824 + 8 * n by rw [inodeN, if_neg (by omega)]; omega] at HI
    have e1 : (824 + 8 * n == -1) = false := by rw [beq_eq_false_iff_ne]; omega
    have e2 : decide (n < 32) = true := by simpa using h2
    have e3 : decide (32 ≤ n) = false := by simp; omega
    have e0 : decide (n < 0) = false := by simp; omega
    have e4 : decide (256 ≤ n) = false := by simp; omega
    go_enter Try.func4, Try.ntmps4
    go_wp2_with fail
    refine HB.out.mono ?_; rintro e w' ⟨rfl, rfl⟩
    go_wp2_with fail
    refine HI.out.mono ?_; rintro e w' ⟨rfl, rfl⟩
    go_wp2_with fail
    refine HA.out.mono ?_; rintro e w1 ⟨rfl, hk⟩
    have HK := Lib.hid hk
    clear hk
    go_wp2_with fail
    go_ret
    exact ⟨rfl, HK.out.below (Nat.le_refl _) (by simp)⟩
  · rw [show blockN n = 1080 + 8 * n by rw [blockN, if_neg (by omega)]; omega] at HB
    rw [show inodeN n = -1 by rw [inodeN, if_pos (by omega)]] at HI
    have e1 : (-1 == 824 + 8 * n) = false := by rw [beq_eq_false_iff_ne]; omega
    have e2 : decide (n < 32) = false := by simp; omega
    have e3 : decide (32 ≤ n) = true := by simpa using h1
    have e0 : decide (n < 0) = false := by simp; omega
    have e4 : decide (256 ≤ n) = false := by simp; omega
    go_enter Try.func4, Try.ntmps4
    go_wp2_with fail
    refine HB.out.mono ?_; rintro e w' ⟨rfl, rfl⟩
    go_wp2_with fail
    refine HI.out.mono ?_; rintro e w' ⟨rfl, rfl⟩
    go_wp2_with fail
    refine HA.out.mono ?_; rintro e w1 ⟨rfl, hk⟩
    have HK := Lib.hid hk
    clear hk
    go_wp2_with fail
    go_ret
    exact ⟨rfl, HK.out.below (Nat.le_refl _) (by simp)⟩

end Go.Proofs.Ytgbmjahjgmcdjaa

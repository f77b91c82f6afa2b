/-
  Layer 2: the laws' 'awake'; PackNames, walked.
-/
import Derived.Test.YtjbecchapkjnpaaPkF
import Derived.Test.YtjbecchapkjnpaaPkG
namespace Go.Proofs.Ytjbecchapkjnpaa
open Go.RowKit

set_option maxHeartbeats 1000000 in
theorem awake2_at (w : World) : Calls Try.prog 6 #[] w fun e w' => e = .returned (.bool true) ∧ Keeps [] w w' := by
  have HW := word_at ⟨#[97]⟩ (by simp [ByteArray.size]) w
  rw [show wordV (bl ⟨#[97]⟩) = 72057594037928033 from rfl, show goodN (bl ⟨#[97]⟩) = true from rfl] at HW
  have HW := Lib.hid HW
  go_enter Try.func6, Try.ntmps6
  go_wp2_with (go_at_call 7; refine HW.out.mono ?_; rintro e w1 ⟨rfl, hk1⟩; have HK1 := Lib.hid hk1; clear hk1)
  go_ret
  exact ⟨rfl, HK1.out⟩

/-- A new slice of one word. -/
theorem reads_one (w : World) (W : Nat) : Reads (w.alloc (.cells #[.int .u64 (W : Int)] 23)) (.slice (some ⟨w.heap.size, 0, none⟩) 1 1) w.heap.size (w64s [W]) :=
  Owns.reads (T := 23) (n := 1) ⟨rfl, _, 1, rfl, Nat.le_refl _, by unfold maxLen; omega, fun _ => ⟨rfl, _, Blk.new _ _ _, rfl, rfl⟩⟩

set_option maxHeartbeats 2000000 in
theorem names_at (s : ByteArray) (hs : s.size ≤ 9223372036854775807) (w : World) : Calls Try.prog 3 #[.string s] w fun e w' => e = .returned (.bool true) ∧ Below w.heap.size w w' := by
  have HA := Lib.hid awake2_at
  by_cases h1 : s.size ≤ 100
  · have q1 : decide (100 < (s.size : Int)) = false := by simp; omega
    have HG := Lib.hid (good_at s hs)
    have HR := Lib.hid (refGood_at s hs)
    have HB := bucket_at s hs
    unfold bucketN at HB
    have HB := Lib.hid HB
    have HW := word_at s hs
    unfold wordV at HW
    have HW := Lib.hid HW
    cases hg : goodN (bl s)
    · rw [hg] at HG HR HB HW
      rw [if_neg (by simp)] at HB HW
      clear hg
      go_enter Try.func3, Try.ntmps3
      go_wp2_with fail
      refine (HA.out _).mono ?_; rintro e w1 ⟨rfl, hk1⟩
      have HK1 := Lib.hid hk1
      clear hk1
      go_wp2_with fail
      refine (HW.out _).mono ?_; rintro e w2 ⟨rfl, hk2⟩
      have HK2 := Lib.hid (HK1.out.trans hk2 (by simp))
      clear hk2 HK1
      go_wp2_with (first | (go_at_call 8; refine (HG.out _).mono ?_; rintro e w' ⟨rfl, rfl⟩) | (go_at_call 9; refine (HR.out _).mono ?_; rintro e w' ⟨rfl, rfl⟩) | (go_at_call 10; refine (HB.out _).mono ?_; rintro e w3 ⟨rfl, hk3⟩; have HK3 := Lib.hid (HK2.out.trans hk3 (by simp)); clear hk3))
      go_ret
      exact ⟨rfl, HK3.out.below (Nat.le_refl _) (by simp)⟩
    · rw [hg] at HG HR HB HW
      rw [if_pos rfl] at HB HW
      have HN := name_at (wordN (bl s))
      rw [nameN_wordN hg (bl_lt s)] at HN
      rw [show (some (bl s)).getD [] = bl s from rfl, strN_bl, show (some (bl s)).isSome = true from rfl] at HN
      have HN := Lib.hid HN
      obtain ⟨l1, l2⟩ := goodN_len hg
      rw [bl_len] at l1 l2
      have HV := Lib.hid (refWord_at s l2)
      have hlt := wordN_lt (l := bl s) (by rw [bl_len]; exact l2) (bl_lt s)
      clear hg
      generalize wordN (bl s) = W at *
      have HS := Lib.hid (fun (w1 : World) => refSum_at (reads_one w1 W) (by simpa using hlt))
      have hq := sumN_lt [W]
      generalize sumN [W] = q at *
      go_enter Try.func3, Try.ntmps3
      go_wp2_with fail
      refine (HA.out _).mono ?_; rintro e w1 ⟨rfl, hk1⟩
      have HK1 := Lib.hid hk1
      clear hk1
      go_wp2_with fail
      refine (HW.out _).mono ?_; rintro e w2 ⟨rfl, hk2⟩
      have HK2 := Lib.hid (HK1.out.trans hk2 (by simp))
      clear hk2 HK1
      go_wp2_with (first | (go_at_call 8; refine (HG.out _).mono ?_; rintro e w' ⟨rfl, rfl⟩) | (go_at_call 9; refine (HR.out _).mono ?_; rintro e w' ⟨rfl, rfl⟩) | (go_at_call 11; refine (HN.out _).mono ?_; rintro e w3 ⟨rfl, hk3⟩; have HK3 := Lib.hid (HK2.out.trans hk3 (by simp)); clear hk3) | (go_at_call 12; refine (HV.out _).mono ?_; rintro e w' ⟨rfl, rfl⟩) | (go_at_call 10; refine (HB.out _).mono ?_; rintro e w4 ⟨rfl, hk4⟩; have HK4 := Lib.hid (HK3.out.trans hk4 (by simp)); clear hk4) | (go_at_call 13; refine (HS.out _).mono ?_; rintro e w' ⟨rfl, rfl⟩))
      go_ret
      exact ⟨rfl, (HK4.out.alloc _).below (Nat.le_refl _) (by simp)⟩
  · have q1 : decide (100 < (s.size : Int)) = true := by simp; omega
    go_enter Try.func3, Try.ntmps3
    go_wp2_with fail
    refine (HA.out _).mono ?_; rintro e w1 ⟨rfl, hk1⟩
    have HK1 := Lib.hid hk1
    clear hk1
    go_wp2_with fail
    refine (HA.out _).mono ?_; rintro e w2 ⟨rfl, hk2⟩
    have HK2 := Lib.hid (HK1.out.trans hk2 (by simp))
    clear hk2
    go_wp2_with fail
    go_ret
    exact ⟨rfl, HK2.out.below (Nat.le_refl _) (by simp)⟩

end Go.Proofs.Ytjbecchapkjnpaa

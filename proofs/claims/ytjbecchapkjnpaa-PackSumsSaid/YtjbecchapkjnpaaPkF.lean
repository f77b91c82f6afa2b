/-
  Layer 2 (pack): the reference's Word and Byte.
-/
import Derived.Test.YtjbecchapkjnpaaPkE
namespace Go.Proofs.Ytjbecchapkjnpaa
open Go.RowKit

/-- The reference's word, once the bytes from i on are in. -/
def refW (l : List Nat) (i : Nat) : Nat := joinN (l.drop i) + 256 ^ (7 - i) * l.length

theorem refW_seven {l : List Nat} (h : l.length ≤ 7) : refW l 7 = l.length := by
  rw [refW, List.drop_of_length_le h]
  simp [joinN]

theorem refW_zero (l : List Nat) : refW l 0 = wordN l := rfl

theorem refW_step {l : List Nat} {i : Nat} (hi : i < 7) : refW l i = refW l (i + 1) * 256 + l.getD i 0 := by
  have e : 256 ^ (7 - i) = 256 * 256 ^ (7 - (i + 1)) := by rw [← Nat.pow_succ']; congr 1; omega
  rw [refW, refW, e]
  by_cases h : i < l.length
  · rw [List.drop_eq_getElem_cons h, joinN, List.getD_eq_getElem?_getD, List.getElem?_eq_getElem h, Option.getD_some, Nat.add_mul, Nat.mul_assoc]
    generalize 256 ^ (7 - (i + 1)) * l.length = z
    omega
  · rw [List.drop_of_length_le (by omega), List.drop_of_length_le (by omega), List.getD_eq_getElem?_getD, List.getElem?_eq_none (by omega), Option.getD_none, Nat.mul_assoc]
    generalize 256 ^ (7 - (i + 1)) * l.length = z
    simp only [joinN]
    omega

theorem refW_lt {l : List Nat} (hl : l.length ≤ 7) (hb : ∀ c ∈ l, c < 256) {i : Nat} (hi : i < 7) : refW l (i + 1) < 2251799813685248 := by
  have h1 := joinN_lt (l := l.drop (i + 1)) fun c hc => hb c (List.mem_of_mem_drop hc)
  have h2 : 256 ^ (l.drop (i + 1)).length ≤ 256 ^ 6 := Nat.pow_le_pow_right (by decide) (by rw [List.length_drop]; omega)
  have h3 : 256 ^ (7 - (i + 1)) ≤ 256 ^ 6 := Nat.pow_le_pow_right (by decide) (by omega)
  rw [show (256 : Nat) ^ 6 = 281474976710656 from rfl] at h2 h3
  have h4 := Nat.mul_le_mul h3 hl
  rw [refW]
  omega

set_option maxHeartbeats 1000000 in
theorem refWord_at (s : ByteArray) (hs : s.size ≤ 7) (w : World) : Calls Try.prog 12 #[.string s] w fun e w' => e = .returned (.int .u64 (wordN (bl s) : Nat)) ∧ w = w' := by
  have HL := Lib.hid (bl_len s)
  go_enter Try.func12, Try.ntmps12
  go_wp2
  go_loopg [3, 4] 7 (fun g s3 s4 wx => ∃ z : Int, z = (g : Int) - 1 ∧ s4 = .int .i64 z ∧ s3 = .int .u64 (refW (bl s) g : Nat) ∧ g ≤ 7 ∧ wx = w)
  case atStart => exact ⟨6, rfl, rfl, by rw [refW_seven (by rw [HL.out]; exact hs), HL.out], by omega, rfl⟩
  case round =>
    obtain ⟨z, hz, rfl, rfl, h7, rfl⟩ := hrel
    cases gk with
    | zero =>
      obtain rfl : z = -1 := by omega
      rw [refW_zero]
      clear hz
      go_wp2_with fail
      go_ret
      exact ⟨rfl, rfl⟩
    | succ g =>
      obtain rfl : z = (g : Int) := by omega
      clear hz
      have hx := refW_lt (l := bl s) (by rw [HL.out]; exact hs) (bl_lt s) (i := g) (by omega)
      have HS := Lib.hid (refW_step (l := bl s) (i := g) (by omega))
      generalize refW (bl s) (g + 1) = x at *
      have hg0 : (0 : Int) ≤ (g : Int) := by omega
      by_cases hlt : g < s.size
      · have HB := Lib.hid (bl_get s g hlt)
        have hlt' : (g : Int) < (s.size : Int) := by omega
        have hc := s[g].toNat_lt
        go_wp2_with fail
        go_roundg g
        case measure => omega
        case rel =>
          refine ⟨(g : Int) - 1, rfl, rfl, ?_, by omega, rfl⟩
          rw [HS.out, HB.out]
          simp
      · have hlt' : ¬ (g : Int) < (s.size : Int) := by omega
        go_wp2_with fail
        go_roundg g
        case measure => omega
        case rel =>
          refine ⟨(g : Int) - 1, rfl, rfl, ?_, by omega, rfl⟩
          rw [HS.out, List.getD_eq_getElem?_getD, List.getElem?_eq_none (by rw [HL.out]; omega)]
          simp

set_option maxHeartbeats 1000000 in
theorem refByte_at (W n : Nat) (hW : W < 18446744073709551616) (hn : n ≤ 8) (w : World) : Calls Try.prog 16 #[.int .u64 (W : Int), .int .i64 (n : Int)] w fun e w' => e = .returned (.int .u8 (byt W n : Nat)) ∧ w = w' := by
  go_enter Try.func16, Try.ntmps16
  go_wp2
  go_loopg [0, 5] n (fun g s0 s5 wx => ∃ k : Nat, k + g = n ∧ s5 = .int .i64 (k : Int) ∧ s0 = .int .u64 ((W / 256 ^ k : Nat) : Int) ∧ wx = w)
  case atStart => exact ⟨0, by omega, rfl, by simp, rfl⟩
  case round =>
    obtain ⟨k, hk, rfl, rfl, rfl⟩ := hrel
    cases gk with
    | zero =>
      obtain rfl : k = n := by omega
      have hlt : ¬ (k : Int) < (k : Int) := by omega
      have HB : Hid (W / 256 ^ k % 256 = byt W k) := rfl
      generalize W / 256 ^ k = x at *
      go_wp2_with fail
      go_ret
      refine ⟨?_, rfl⟩
      rw [← HB.out]
      rfl
    | succ g =>
      have hlt : (k : Int) < (n : Int) := by omega
      have HX := Lib.hid (show W / 256 ^ k / 256 = W / 256 ^ (k + 1) by rw [Nat.div_div_eq_div_mul, Nat.pow_succ])
      have hx : W / 256 ^ k < 18446744073709551616 := Nat.lt_of_le_of_lt (Nat.div_le_self _ _) hW
      generalize W / 256 ^ k = x at *
      go_wp2_with fail
      go_roundg g
      case measure => omega
      case rel =>
        refine ⟨k + 1, by omega, by go_num, ?_, rfl⟩
        rw [← HX.out]
        rfl

end Go.Proofs.Ytjbecchapkjnpaa

/-
  Layer 5 (palloc): the counting of bits (math/bits.OnesCount64), the lowest bit (math/bits.TrailingZeros64).
-/
import Derived.Test.YtpndogcdmoeemaaDoorPaB
import Derived.Lib.TrailingZeros
namespace Go.Proofs.YtpndogcdmoeemaaDoor
open Go.RowKit

theorem rep_85 : rep 85 8 = 6148914691236517205 := by decide
theorem rep_51 : rep 51 8 = 3689348814741910323 := by decide
theorem rep_15 : rep 15 8 = 1085102592571150095 := by decide

theorem wrapU (n : Nat) (h : n < 18446744073709551616) : IntKind.u64.wrap (n : Int) = (n : Int) := by rw [IntKind.wrap_u64]; omega

theorem and_half (x d m : Nat) (hx : x < 18446744073709551616) (hm : m < 18446744073709551616) : bits .and .u64 ((x : Int) / (d : Int)) (m : Int) = ((x / d &&& m : Nat) : Int) :=
  u64_and_nat (x / d) m (Nat.lt_of_le_of_lt (Nat.div_le_self x d) hx) hm

theorem i64_and127 (x : Nat) (h : x < 9223372036854775808) : bits .and .i64 (x : Int) 127 = ((x % 128 : Nat) : Int) := by
  show IntKind.i64.wrap ((BitVec.ofInt 64 (x : Int) &&& BitVec.ofInt 64 127).toNat : Int) = _
  have h1 : BitVec.ofInt 64 127 = BitVec.ofNat 64 127 := by decide
  rw [BitVec.toNat_and, ofInt_u64 x (by omega), h1, BitVec.toNat_ofNat, show (127 % 2 ^ 64 : Nat) = 2 ^ 7 - 1 from rfl, Nat.and_two_pow_sub_one_eq_mod]
  rw [IntWalk.i64_in _ (by omega)]

/-- The counting's steps, as the walk spells them. -/
theorem count_walk (x : Nat) (hx : x < 18446744073709551616) : ∃ x1 x2 x3 x4 x5 x6 : Nat,
    IntKind.u64.wrap (bits .and .u64 ((x : Int) / 2) 6148914691236517205 + bits .and .u64 (x : Int) 6148914691236517205) = (x1 : Int) ∧
    IntKind.u64.wrap (bits .and .u64 ((x1 : Int) / 4) 3689348814741910323 + bits .and .u64 (x1 : Int) 3689348814741910323) = (x2 : Int) ∧
    bits .and .u64 (IntKind.u64.wrap ((x2 : Int) / 16 + (x2 : Int))) 1085102592571150095 = (x3 : Int) ∧
    IntKind.u64.wrap ((x3 : Int) + (x3 : Int) / 256) = (x4 : Int) ∧
    IntKind.u64.wrap ((x4 : Int) + (x4 : Int) / 65536) = (x5 : Int) ∧
    IntKind.u64.wrap ((x5 : Int) + (x5 : Int) / 4294967296) = (x6 : Int) ∧
    IntKind.i64.wrap (x6 : Int) = (x6 : Int) ∧ bits .and .i64 (x6 : Int) 127 = ((ones 64 x : Nat) : Int) := by
  obtain ⟨x1, x2, x3, x4, x5, x6, s1, s2, s3, s4, s5, s6, b1, b2, b2', b3, b4, b5, b6, hm⟩ := count_steps x hx
  unfold st1 at s1
  unfold st2 at s2
  unfold st3 at s3
  rw [rep_85] at s1
  rw [rep_51] at s2
  rw [rep_15] at s3
  refine ⟨x1, x2, x3, x4, x5, x6, ?_, ?_, ?_, ?_, ?_, ?_, ?_, ?_⟩
  · rw [show (bits .and .u64 ((x : Int) / 2) 6148914691236517205) = _ from and_half x 2 6148914691236517205 hx (by decide), show (bits .and .u64 (x : Int) 6148914691236517205) = _ from u64_and_nat x 6148914691236517205 hx (by decide), ← Int.natCast_add, s1]
    exact wrapU _ b1
  · rw [show (bits .and .u64 ((x1 : Int) / 4) 3689348814741910323) = _ from and_half x1 4 3689348814741910323 b1 (by decide), show (bits .and .u64 (x1 : Int) 3689348814741910323) = _ from u64_and_nat x1 3689348814741910323 b1 (by decide), ← Int.natCast_add, s2]
    exact wrapU _ b2
  · rw [show (x2 : Int) / 16 + (x2 : Int) = ((x2 / 16 + x2 : Nat) : Int) by omega, wrapU _ b2', ← s3]
    exact u64_and_nat (x2 / 16 + x2) 1085102592571150095 b2' (by decide)
  · rw [show (x3 : Int) + (x3 : Int) / 256 = ((x4 : Nat) : Int) by omega]
    exact wrapU _ (by omega)
  · rw [show (x4 : Int) + (x4 : Int) / 65536 = ((x5 : Nat) : Int) by omega]
    exact wrapU _ (by omega)
  · rw [show (x5 : Int) + (x5 : Int) / 4294967296 = ((x6 : Nat) : Int) by omega]
    exact wrapU _ (by omega)
  · exact IntWalk.i64_in _ (by omega)
  · rw [i64_and127 _ b6, hm]

set_option maxHeartbeats 1000000 in
theorem ones_at (x : Nat) (hx : x < 18446744073709551616) (w : World) : Calls Tryd.prog 14 #[.int .u64 (x : Int)] w fun e w' => e = .returned (.int .i64 ((ones 64 x : Nat) : Int)) ∧ w = w' := by
  obtain ⟨x1, x2, x3, x4, x5, x6, E1, E2, E3, E4, E5, E6, E7, E8⟩ := count_walk x hx
  generalize ones 64 x = r at *
  clear hx
  go_enter Tryd.func14, Tryd.ntmps14
  go_wp2
  go_ret
  exact ⟨rfl, rfl⟩

/-- math/bits' table lies in its variable. -/
def TabAt (w : World) : Prop := ∀ j, j < 64 → w.cell? ⟨0, j, none⟩ = some (.int .u8 ((Lib.deBruijn64tab.getD j 0 : Nat) : Int))

theorem tz_key (x a : Nat) (hx : x < 18446744073709551616) (hx0 : x ≠ 0) (hlow : x &&& (18446744073709551616 - x) = a) :
    IntKind.u64.wrap (bits .and .u64 (x : Int) (IntKind.u64.wrap (-(x : Int))) * 285870213051353865) / 288230376151711744 = ((a * 285870213051353865 % 18446744073709551616 / 288230376151711744 : Nat) : Int) := by
  have e1 : IntKind.u64.wrap (-(x : Int)) = ((18446744073709551616 - x : Nat) : Int) := by rw [IntKind.wrap_u64]; omega
  rw [e1, u64_and_nat x _ hx (by omega), hlow, IntKind.wrap_u64]
  omega

set_option maxHeartbeats 1000000 in
theorem tz_core (x k idx : Nat) (w : World) (hx0 : ((x : Int) == 0) = false)
    (key : IntKind.u64.wrap (bits .and .u64 (x : Int) (IntKind.u64.wrap (-(x : Int))) * 285870213051353865) / 288230376151711744 = (idx : Int))
    (hi : idx < 64) (hk : k < 64) (hcell : w.cell? ⟨0, idx, none⟩ = some (.int .u8 k)) :
    Calls Tryd.prog 23 #[.int .u64 (x : Int)] w fun e w' => e = .returned (.int .i64 (k : Int)) ∧ w = w' := by
  go_enter Tryd.func23, Tryd.ntmps23
  go_wp2_with (simp only [key])
  go_ret
  exact ⟨rfl, rfl⟩

theorem tz_at (x : Nat) (hx : x < 18446744073709551616) (h0 : x ≠ 0) (w : World) (hT : TabAt w) : Calls Tryd.prog 23 #[.int .u64 (x : Int)] w fun e w' => e = .returned (.int .i64 ((Lib.ctz 64 x : Nat) : Int)) ∧ w = w' := by
  obtain ⟨hlow, hk⟩ := Lib.lowest_bit 64 x h0 hx
  obtain ⟨hi, htab⟩ := Lib.deBruijn64_at _ hk
  have hcell := hT _ hi
  rw [htab] at hcell
  exact tz_core x _ _ w (by simp; omega) (tz_key x _ hx h0 hlow) hi hk hcell

end Go.Proofs.YtpndogcdmoeemaaDoor

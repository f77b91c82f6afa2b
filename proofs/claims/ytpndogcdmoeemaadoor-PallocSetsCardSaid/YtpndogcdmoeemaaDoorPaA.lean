/-
  Layer 5 (palloc): isBlock, bitsOf, maskOf, Used.
-/
import Derived.Test.YtpndogcdmoeemaaDoorPaN
import Derived.Test.YtpndogcdmoeemaaDoorTxC
import Derived.Test.YtpndogcdmoeemaaDoorTxF
import Derived.Laws.BitsAllLaws
import Derived.IntWalk
namespace Go.Proofs.YtpndogcdmoeemaaDoor
open Go.RowKit

theorem ret_intP {k : IntKind} {a b : Int} (h : a = b) : Ending.returned (.int k a) = .returned (.int k b) := by rw [h]

def isBl (b : Int) : Bool := decide (0 ≤ b) && decide (b < 256)
theorem isBl_iff {b : Int} : isBl b = true ↔ 0 ≤ b ∧ b < 256 := by simp [isBl]

set_option maxHeartbeats 400000 in
theorem paIsBlock_at (i : Int) (w : World) : Calls Tryd.prog 18 #[.int .i64 i] w fun e w' => e = .returned (.bool (isBl i)) ∧ w = w' := by
  by_cases h0 : 0 ≤ i
  · by_cases h1 : i < 256
    · rw [isBl_iff.2 ⟨h0, h1⟩]
      go_enter Tryd.func18, Tryd.ntmps18
      go_wp2
      go_ret
      exact ⟨rfl, rfl⟩
    · rw [show isBl i = false by simp [isBl]; omega]
      go_enter Tryd.func18, Tryd.ntmps18
      go_wp2
      go_ret
      exact ⟨rfl, rfl⟩
  · rw [show isBl i = false by simp [isBl]; omega]
    go_enter Tryd.func18, Tryd.ntmps18
    go_wp2
    go_ret
    exact ⟨rfl, rfl⟩

set_option maxHeartbeats 400000 in
theorem paBitsOf_at (b : Nat) (hb : b < 256) (w : World) : Calls Tryd.prog 20 #[.int .i64 (b : Int)] w fun e w' => e = .returned (.int .i64 ((816 + b / 64 : Nat) : Int)) ∧ w = w' := by
  have h0 : (0 : Int) ≤ (b : Int) := by omega
  have h1 : (b : Int) < 256 := by omega
  go_enter Tryd.func20, Tryd.ntmps20
  go_wp2
  go_ret
  exact ⟨ret_intP (by omega), rfl⟩

/-- Which bit of its word is a block's. -/
def mskN (b : Nat) : Nat := 2 ^ (b % 64)

theorem mskN_lt (b : Nat) : mskN b < 18446744073709551616 := pow_lt64 (Nat.mod_lt _ (by decide))

theorem mskN_shl (b : Nat) : IntKind.u64.wrap (2 ^ (b % 64)) = ((mskN b : Nat) : Int) := by
  have h := mskN_lt b
  have e : ((2 : Int) ^ (b % 64)) = ((2 ^ (b % 64) : Nat) : Int) := by simp
  rw [IntKind.wrap_u64, e]
  unfold mskN at *
  generalize 2 ^ (b % 64) = x at *
  omega

set_option maxHeartbeats 400000 in
theorem paMaskOf_at (b : Nat) (hb : b < 256) (w : World) : Calls Tryd.prog 21 #[.int .i64 (b : Int)] w fun e w' => e = .returned (.int .u64 ((mskN b : Nat) : Int)) ∧ w = w' := by
  have h0 : (0 : Int) ≤ (b : Int) := by omega
  have h1 : (b : Int) < 256 := by omega
  have H := Lib.hid (mskN_shl b)
  go_enter Tryd.func21, Tryd.ntmps21
  go_wp2
  go_ret
  exact ⟨ret_intP H.out, rfl⟩

theorem and_pow (x j : Nat) : x &&& 2 ^ j = if x.testBit j = true then 2 ^ j else 0 := by
  apply Nat.eq_of_testBit_eq
  intro i
  rw [Nat.testBit_and, Nat.testBit_two_pow]
  by_cases e : j = i
  · subst e
    cases h : x.testBit j <;> simp
  · cases h : x.testBit j <;> simp [e]

theorem and_mskN (x b : Nat) : (x &&& mskN b ≠ 0) ↔ x.testBit (b % 64) = true := by
  unfold mskN
  rw [and_pow]
  have := Nat.two_pow_pos (b % 64)
  cases x.testBit (b % 64) <;> simp <;> omega

/-- The words, as they are read: a word of the bits. -/
theorem getN_bits {B : List Int} {ps : List (Int × Int)} (h : In64 (putAll B ps)) (k : Nat) (hk : k < 2000) : getN B ps ((816 + k : Nat) : Int) = ((bw (putAll B ps) k : Nat) : Int) := by
  unfold getN
  rw [if_pos (by omega), bw_cast h, Int.toNat_natCast]

/-- What Used tells. -/
def usedB (X : List Int) (b : Int) : Bool := if isBl b = true then usedN X b.toNat else true

set_option maxHeartbeats 1000000 in
theorem paUsed_at {w : World} {b gp : Nat} {B : List Int} {ps : List (Int × Int)} (h : ShAt w b gp B ps) (h64 : In64 (putAll B ps)) (i : Int) :
    Calls Tryd.prog 10 #[.pointer (some ⟨b, 0, none⟩), .int .i64 i] w fun e w' => e = .returned (.bool (usedB (putAll B ps) i)) ∧ w = w' := by
  have HI := Lib.hid (paIsBlock_at i w)
  unfold usedB
  cases hi : isBl i
  · rw [hi] at HI
    rw [if_neg (by simp)]
    clear hi h
    go_enter Tryd.func10, Tryd.ntmps10
    go_wp2_with (go_at_call 18; refine HI.out.mono ?_; rintro e w' ⟨rfl, rfl⟩)
    go_ret
    exact ⟨rfl, rfl⟩
  · rw [hi] at HI
    rw [if_pos rfl]
    obtain ⟨h0, h1⟩ := isBl_iff.1 hi
    clear hi
    obtain ⟨j, rfl⟩ := Int.eq_ofNat_of_zero_le h0
    have hj : j < 256 := by omega
    rw [Int.toNat_natCast]
    have HB := Lib.hid (paBitsOf_at j hj w)
    have HM := Lib.hid (paMaskOf_at j hj w)
    have HG := Lib.hid (txGet_at h ((816 + j / 64 : Nat) : Int))
    rw [getN_bits h64 (j / 64) (by omega)] at HG
    have ha := u64_and_nat (bw (putAll B ps) (j / 64)) (mskN j) (bw_lt h64 _) (mskN_lt j)
    have he : ((((bw (putAll B ps) (j / 64) &&& mskN j : Nat) : Int)) != 0) = usedN (putAll B ps) j := by
      have := and_mskN (bw (putAll B ps) (j / 64)) j
      unfold usedN
      rw [Bool.eq_iff_iff, ← this]
      simp
    generalize bw (putAll B ps) (j / 64) &&& mskN j = y at *
    generalize bw (putAll B ps) (j / 64) = x at *
    generalize mskN j = m at *
    generalize usedN (putAll B ps) j = u at *
    clear h h64
    go_enter Tryd.func10, Tryd.ntmps10
    go_wp2_with fail
    refine HI.out.mono ?_; rintro e w' ⟨rfl, rfl⟩
    go_wp2_with fail
    refine HB.out.mono ?_; rintro e w' ⟨rfl, rfl⟩
    go_wp2_with fail
    refine HG.out.mono ?_; rintro e w' ⟨rfl, rfl⟩
    go_wp2_with fail
    refine HM.out.mono ?_; rintro e w' ⟨rfl, rfl⟩
    go_wp2_with fail
    go_ret
    exact ⟨rfl, rfl⟩

end Go.Proofs.YtpndogcdmoeemaaDoor

/-
  Layer 5 (palloc): isBlock, bitsOf, maskOf, Used. Layer 5 (palloc): Set, freeIn. Layer 5 (palloc): the counting of bits (math/bits.OnesCount64), the lowest bit (math/bits.TrailingZeros64). Layer 5 (palloc): what puts leave (Onto), empty, Free. Layer 5 (palloc): firstFree. Layer 6 (fmt1): an inode's variable, its numbers or its entries stored. Layer 5 (palloc): Take. Layer 4 (tx): Inode. Layer 6 (fmt1): what Lay puts, plain; copying numbers. Layer 6 (fmt1): rightDir. Layer 6 (fmt1): Right. Layer 6 (fmt1): Lay, where it refuses. Layer 5: the laws' sheet.
-/
import Derived.Test.YtmhcnkjmnbnldaaDoorG03
import Derived.Laws.BitsAllLaws
import Derived.IntWalk
import Derived.Lib.TrailingZeros
import Derived.BigRegion
import Derived.Deep.LoopGhost
import Derived.WalkMore
import Derived.Test.YtmhcnkjmnbnldaaDoorG04
import Derived.Test.YtmhcnkjmnbnldaaDoorG00
import Derived.Test.YtmhcnkjmnbnldaaDoorG02
import Derived.Laws.IdiomCopy
import Derived.Deep.QuietTactic
import Derived.Deep.RegionHeld
namespace Go.Proofs.YtmhcnkjmnbnldaaDoor
open Go.RowKit

theorem ret_intP {k : IntKind} {a b : Int} (h : a = b) : Ending.returned (.int k a) = .returned (.int k b) := by rw [h]

def isBl (b : Int) : Bool := decide (0 ≤ b) && decide (b < 256)
theorem isBl_iff {b : Int} : isBl b = true ↔ 0 ≤ b ∧ b < 256 := by simp [isBl]

set_option maxHeartbeats 400000 in
theorem paIsBlock_at (i : Int) (w : World) : Calls Tryd.prog 82 #[.int .i64 i] w fun e w' => e = .returned (.bool (isBl i)) ∧ w = w' := by
  by_cases h0 : 0 ≤ i
  · by_cases h1 : i < 256
    · rw [isBl_iff.2 ⟨h0, h1⟩]
      go_enter Tryd.func82, Tryd.ntmps82
      go_wp2
      go_ret
      exact ⟨rfl, rfl⟩
    · rw [show isBl i = false by simp [isBl]; omega]
      go_enter Tryd.func82, Tryd.ntmps82
      go_wp2
      go_ret
      exact ⟨rfl, rfl⟩
  · rw [show isBl i = false by simp [isBl]; omega]
    go_enter Tryd.func82, Tryd.ntmps82
    go_wp2
    go_ret
    exact ⟨rfl, rfl⟩

set_option maxHeartbeats 400000 in
theorem paBitsOf_at (b : Nat) (hb : b < 256) (w : World) : Calls Tryd.prog 83 #[.int .i64 (b : Int)] w fun e w' => e = .returned (.int .i64 ((816 + b / 64 : Nat) : Int)) ∧ w = w' := by
  have h0 : (0 : Int) ≤ (b : Int) := by omega
  have h1 : (b : Int) < 256 := by omega
  go_enter Tryd.func83, Tryd.ntmps83
  go_wp2
  go_ret
  exact ⟨ret_intP (by omega), rfl⟩

/-- Which bit of its word is a block's. -/
def mskN (b : Nat) : Nat := 2 ^ (b % 64)

theorem mskN_lt (b : Nat) : mskN b < 18446744073709551616 := pow_lt64 (Nat.mod_lt _ (by decide))

theorem mskN_shl (b : Nat) : IntKind.u64.wrap (2 ^ (b % 64)) = ((mskN b : Nat) : Int) := by
  have h := mskN_lt b
  have e : ((2 : Int) ^ (b % 64)) = ((2 ^ (b % 64) : Nat) : Int) := by simp
  rw [IntKind.wrap_u64, e]
  unfold mskN at *
  generalize 2 ^ (b % 64) = x at *
  omega

set_option maxHeartbeats 400000 in
theorem paMaskOf_at (b : Nat) (hb : b < 256) (w : World) : Calls Tryd.prog 84 #[.int .i64 (b : Int)] w fun e w' => e = .returned (.int .u64 ((mskN b : Nat) : Int)) ∧ w = w' := by
  have h0 : (0 : Int) ≤ (b : Int) := by omega
  have h1 : (b : Int) < 256 := by omega
  have H := Lib.hid (mskN_shl b)
  go_enter Tryd.func84, Tryd.ntmps84
  go_wp2
  go_ret
  exact ⟨ret_intP H.out, rfl⟩

theorem and_pow (x j : Nat) : x &&& 2 ^ j = if x.testBit j = true then 2 ^ j else 0 := by
  apply Nat.eq_of_testBit_eq
  intro i
  rw [Nat.testBit_and, Nat.testBit_two_pow]
  by_cases e : j = i
  · subst e
    cases h : x.testBit j <;> simp
  · cases h : x.testBit j <;> simp [e]

theorem and_mskN (x b : Nat) : (x &&& mskN b ≠ 0) ↔ x.testBit (b % 64) = true := by
  unfold mskN
  rw [and_pow]
  have := Nat.two_pow_pos (b % 64)
  cases x.testBit (b % 64) <;> simp <;> omega

/-- The words, as they are read: a word of the bits. -/
theorem getN_bits {B : List Int} {ps : List (Int × Int)} (h : In64 (putAll B ps)) (k : Nat) (hk : k < 2000) : getN B ps ((816 + k : Nat) : Int) = ((bw (putAll B ps) k : Nat) : Int) := by
  unfold getN
  rw [if_pos (by omega), bw_cast h, Int.toNat_natCast]

end Go.Proofs.YtmhcnkjmnbnldaaDoor

namespace Go.Proofs.YtmhcnkjmnbnldaaDoor
open Go.RowKit

theorem setW_mskN (x b : Nat) : setW x (b % 64) false = x &&& (18446744073709551615 - mskN b) ∧ setW x (b % 64) true = (x &&& (18446744073709551615 - mskN b)) ||| mskN b := ⟨rfl, rfl⟩

set_option maxHeartbeats 2000000 in
theorem paSet_at {w : World} {b gp : Nat} {B : List Int} {ps : List (Int × Int)} (h : ShAt w b gp B ps) (h64 : In64 (putAll B ps)) (hn : ps.length ≤ 1000000) (i : Int) (u : Bool) :
    Calls Tryd.prog 61 #[.pointer (some ⟨b, 0, none⟩), .int .i64 i, .bool u] w (PutPost w b gp B (ps ++ setPs (putAll B ps) i.toNat u)) := by
  have HI := Lib.hid (paIsBlock_at i w)
  by_cases hz : i = 0
  · subst hz
    have HM : Hid (PutPost w b gp B (ps ++ setPs (putAll B ps) (0 : Int).toNat u) (.returned (.tuple #[])) w) := by
      show PutPost _ _ _ _ _ _ _
      rw [show setPs (putAll B ps) (0 : Int).toNat u = [] by simp [setPs], List.append_nil]
      exact ⟨rfl, gp, .inl rfl, h, Keeps.refl _ _⟩
    clear h
    go_enter Tryd.func61, Tryd.ntmps61
    go_wp2_with fail
    go_end0
    exact HM.out
  have e0 : (i == 0) = false := by simpa using hz
  cases hi : isBl i
  · rw [hi] at HI
    have HM : Hid (PutPost w b gp B (ps ++ setPs (putAll B ps) i.toNat u) (.returned (.tuple #[])) w) := by
      show PutPost _ _ _ _ _ _ _
      have : ¬ (0 ≤ i ∧ i < 256) := fun e => by rw [isBl_iff.2 e] at hi; cases hi
      rw [show setPs (putAll B ps) i.toNat u = [] by unfold setPs; rw [if_pos (by omega)], List.append_nil]
      exact ⟨rfl, gp, .inl rfl, h, Keeps.refl _ _⟩
    clear hi h hz
    go_enter Tryd.func61, Tryd.ntmps61
    go_wp2_with fail
    refine HI.out.mono ?_; rintro e w' ⟨rfl, rfl⟩
    go_wp2_with fail
    go_end0
    exact HM.out
  · rw [hi] at HI
    obtain ⟨h0, h1⟩ := isBl_iff.1 hi
    clear hi
    obtain ⟨j, rfl⟩ := Int.eq_ofNat_of_zero_le h0
    have hj : j < 256 := by omega
    have hj0 : ¬ (j = 0 ∨ 256 ≤ j) := by omega
    clear hz
    have HB := Lib.hid (paBitsOf_at j hj w)
    have HM := Lib.hid (paMaskOf_at j hj w)
    have HG := Lib.hid (txGet_at h ((816 + j / 64 : Nat) : Int))
    rw [getN_bits h64 (j / 64) (by omega)] at HG
    have hx := bw_lt h64 (j / 64)
    have hm := mskN_lt j
    have ha := u64_andNot_nat (bw (putAll B ps) (j / 64)) (mskN j) hx hm
    have hy : bw (putAll B ps) (j / 64) &&& (18446744073709551615 - mskN j) < 18446744073709551616 := Nat.lt_of_le_of_lt Nat.and_le_left hx
    have hin : inB ((816 + j / 64 : Nat) : Int) = true := inB_iff.2 ⟨by omega, by omega⟩
    obtain ⟨s0, s1⟩ := setW_mskN (bw (putAll B ps) (j / 64)) j
    cases u
    · have HP : Hid (Calls Tryd.prog 23 #[.pointer (some ⟨b, 0, none⟩), .int .i64 ((816 + j / 64 : Nat) : Int), .int .u64 ((bw (putAll B ps) (j / 64) &&& (18446744073709551615 - mskN j) : Nat) : Int)] w (PutPost w b gp B (ps ++ setPs (putAll B ps) (j : Int).toNat false))) := by
        have := txPut_at h hn ((816 + j / 64 : Nat) : Int) ((bw (putAll B ps) (j / 64) &&& (18446744073709551615 - mskN j) : Nat) : Int)
        unfold putN at this
        rw [if_pos hin] at this
        unfold setPs
        rw [Int.toNat_natCast, if_neg hj0, s0]
        exact this
      clear h h64 hn hx hm hin s0 s1 hj0 hy
      generalize ps ++ setPs (putAll B ps) (j : Int).toNat false = qs at *
      generalize bw (putAll B ps) (j / 64) &&& (18446744073709551615 - mskN j) = y at *
      generalize bw (putAll B ps) (j / 64) = x at *
      generalize mskN j = m at *
      go_enter Tryd.func61, Tryd.ntmps61
      go_wp2_with fail
      refine HI.out.mono ?_; rintro e w' ⟨rfl, rfl⟩
      go_wp2_with fail
      refine HB.out.mono ?_; rintro e w' ⟨rfl, rfl⟩
      go_wp2_with fail
      refine HG.out.mono ?_; rintro e w' ⟨rfl, rfl⟩
      go_wp2_with fail
      refine HM.out.mono ?_; rintro e w' ⟨rfl, rfl⟩
      go_wp2_with fail
      refine HB.out.mono ?_; rintro e w' ⟨rfl, rfl⟩
      go_wp2_with fail
      refine HP.out.mono ?_; rintro e w' hp
      have HQ := Lib.hid hp
      obtain ⟨rfl, -⟩ := hp
      go_wp2_with fail
      go_end0
      exact HQ.out
    · have ho := u64_or_nat (bw (putAll B ps) (j / 64) &&& (18446744073709551615 - mskN j)) (mskN j) hy hm
      have HP : Hid (Calls Tryd.prog 23 #[.pointer (some ⟨b, 0, none⟩), .int .i64 ((816 + j / 64 : Nat) : Int), .int .u64 (((bw (putAll B ps) (j / 64) &&& (18446744073709551615 - mskN j)) ||| mskN j : Nat) : Int)] w (PutPost w b gp B (ps ++ setPs (putAll B ps) (j : Int).toNat true))) := by
        have := txPut_at h hn ((816 + j / 64 : Nat) : Int) (((bw (putAll B ps) (j / 64) &&& (18446744073709551615 - mskN j)) ||| mskN j : Nat) : Int)
        unfold putN at this
        rw [if_pos hin] at this
        unfold setPs
        rw [Int.toNat_natCast, if_neg hj0, s1]
        exact this
      clear h h64 hn hx hm hin s0 s1 hj0 hy
      generalize ps ++ setPs (putAll B ps) (j : Int).toNat true = qs at *
      generalize (bw (putAll B ps) (j / 64) &&& (18446744073709551615 - mskN j)) ||| mskN j = z at *
      generalize bw (putAll B ps) (j / 64) &&& (18446744073709551615 - mskN j) = y at *
      generalize bw (putAll B ps) (j / 64) = x at *
      generalize mskN j = m at *
      go_enter Tryd.func61, Tryd.ntmps61
      go_wp2_with fail
      refine HI.out.mono ?_; rintro e w' ⟨rfl, rfl⟩
      go_wp2_with fail
      refine HB.out.mono ?_; rintro e w' ⟨rfl, rfl⟩
      go_wp2_with fail
      refine HG.out.mono ?_; rintro e w' ⟨rfl, rfl⟩
      go_wp2_with fail
      refine HM.out.mono ?_; rintro e w' ⟨rfl, rfl⟩
      go_wp2_with fail
      refine HM.out.mono ?_; rintro e w' ⟨rfl, rfl⟩
      go_wp2_with fail
      refine HB.out.mono ?_; rintro e w' ⟨rfl, rfl⟩
      go_wp2_with fail
      refine HP.out.mono ?_; rintro e w' hp
      have HQ := Lib.hid hp
      obtain ⟨rfl, -⟩ := hp
      go_wp2_with fail
      go_end0
      exact HQ.out

theorem xor_all (x : Nat) (hx : x < 18446744073709551616) : 18446744073709551615 ^^^ x = 18446744073709551615 - x := by
  apply Nat.eq_of_testBit_eq
  intro j
  rw [Nat.testBit_xor, testBit_not x j hx, show (18446744073709551615 : Nat) = 2 ^ 64 - 1 from rfl, Nat.testBit_two_pow_sub_one]
  by_cases h : j < 64
  · simp [h]
  · have : x.testBit j = false := by
      apply Nat.testBit_lt_two_pow
      exact Nat.lt_of_lt_of_le hx (Nat.pow_le_pow_right (n := 2) (i := 64) (by decide) (by omega))
    simp [h, this]

theorem xor_int (x : Nat) (hx : x < 18446744073709551616) : bits .xor .u64 IntKind.u64.max (x : Int) = ((18446744073709551615 - x : Nat) : Int) := by
  rw [← xor_all x hx]
  exact u64_xor_nat 18446744073709551615 x (by decide) hx

set_option maxHeartbeats 1000000 in
theorem paFreeIn_at {w : World} {b gp : Nat} {B : List Int} {ps : List (Int × Int)} (h : ShAt w b gp B ps) (h64 : In64 (putAll B ps)) (k : Nat) (hk : k < 4) :
    Calls Tryd.prog 80 #[.pointer (some ⟨b, 0, none⟩), .int .i64 (k : Int)] w fun e w' => e = .returned (.int .u64 ((frW (putAll B ps) k : Nat) : Int)) ∧ w = w' := by
  have HG := Lib.hid (txGet_at h ((816 + k : Nat) : Int))
  rw [getN_bits h64 k (by omega)] at HG
  have hx := xor_int _ (bw_lt h64 k)
  have ek : IntKind.i64.wrap (816 + (k : Int)) = ((816 + k : Nat) : Int) := by rw [IntWalk.i64_in _ (by omega)]; omega
  by_cases h0 : k = 0
  · subst h0
    have HM : Hid (Calls Tryd.prog 84 #[.int .i64 0] w (fun e w' => e = .returned (.int .u64 1) ∧ w = w')) := paMaskOf_at 0 (by decide) w
    have ha : bits .andNot .u64 (((18446744073709551615 - bw (putAll B ps) 0 : Nat)) : Int) 1 = ((frW (putAll B ps) 0 : Nat) : Int) := by
      rw [frW, if_pos rfl]
      exact u64_andNot_nat (18446744073709551615 - bw (putAll B ps) 0) 1 (by omega) (by decide)
    generalize frW (putAll B ps) 0 = f at *
    generalize 18446744073709551615 - bw (putAll B ps) 0 = y at *
    generalize bw (putAll B ps) 0 = x at *
    clear h h64
    go_enter Tryd.func80, Tryd.ntmps80
    go_wp2_with fail
    refine HG.out.mono ?_; rintro e w' ⟨rfl, rfl⟩
    go_wp2_with fail
    refine HM.out.mono ?_; rintro e w' ⟨rfl, rfl⟩
    go_wp2_with fail
    go_ret
    exact ⟨rfl, rfl⟩
  · have e0 : ((k : Int) == 0) = false := by simp; omega
    have hf : 18446744073709551615 - bw (putAll B ps) k = frW (putAll B ps) k := by rw [frW, if_neg h0]
    rw [hf] at hx
    clear hf
    generalize frW (putAll B ps) k = f at *
    generalize bw (putAll B ps) k = x at *
    clear h h64
    go_enter Tryd.func80, Tryd.ntmps80
    go_wp2_with fail
    refine HG.out.mono ?_; rintro e w' ⟨rfl, rfl⟩
    go_wp2_with fail
    go_ret
    exact ⟨rfl, rfl⟩

end Go.Proofs.YtmhcnkjmnbnldaaDoor

namespace Go.Proofs.YtmhcnkjmnbnldaaDoor
open Go.RowKit

theorem rep_85 : rep 85 8 = 6148914691236517205 := by decide
theorem rep_51 : rep 51 8 = 3689348814741910323 := by decide
theorem rep_15 : rep 15 8 = 1085102592571150095 := by decide

theorem wrapU (n : Nat) (h : n < 18446744073709551616) : IntKind.u64.wrap (n : Int) = (n : Int) := by rw [IntKind.wrap_u64]; omega

theorem and_half (x d m : Nat) (hx : x < 18446744073709551616) (hm : m < 18446744073709551616) : bits .and .u64 ((x : Int) / (d : Int)) (m : Int) = ((x / d &&& m : Nat) : Int) :=
  u64_and_nat (x / d) m (Nat.lt_of_le_of_lt (Nat.div_le_self x d) hx) hm

theorem i64_and127 (x : Nat) (h : x < 9223372036854775808) : bits .and .i64 (x : Int) 127 = ((x % 128 : Nat) : Int) := by
  show IntKind.i64.wrap ((BitVec.ofInt 64 (x : Int) &&& BitVec.ofInt 64 127).toNat : Int) = _
  have h1 : BitVec.ofInt 64 127 = BitVec.ofNat 64 127 := by decide
  rw [BitVec.toNat_and, ofInt_u64 x (by omega), h1, BitVec.toNat_ofNat, show (127 % 2 ^ 64 : Nat) = 2 ^ 7 - 1 from rfl, Nat.and_two_pow_sub_one_eq_mod]
  rw [IntWalk.i64_in _ (by omega)]

/-- The counting's steps, as the walk spells them. -/
theorem count_walk (x : Nat) (hx : x < 18446744073709551616) : ∃ x1 x2 x3 x4 x5 x6 : Nat,
    IntKind.u64.wrap (bits .and .u64 ((x : Int) / 2) 6148914691236517205 + bits .and .u64 (x : Int) 6148914691236517205) = (x1 : Int) ∧
    IntKind.u64.wrap (bits .and .u64 ((x1 : Int) / 4) 3689348814741910323 + bits .and .u64 (x1 : Int) 3689348814741910323) = (x2 : Int) ∧
    bits .and .u64 (IntKind.u64.wrap ((x2 : Int) / 16 + (x2 : Int))) 1085102592571150095 = (x3 : Int) ∧
    IntKind.u64.wrap ((x3 : Int) + (x3 : Int) / 256) = (x4 : Int) ∧
    IntKind.u64.wrap ((x4 : Int) + (x4 : Int) / 65536) = (x5 : Int) ∧
    IntKind.u64.wrap ((x5 : Int) + (x5 : Int) / 4294967296) = (x6 : Int) ∧
    IntKind.i64.wrap (x6 : Int) = (x6 : Int) ∧ bits .and .i64 (x6 : Int) 127 = ((ones 64 x : Nat) : Int) := by
  obtain ⟨x1, x2, x3, x4, x5, x6, s1, s2, s3, s4, s5, s6, b1, b2, b2', b3, b4, b5, b6, hm⟩ := count_steps x hx
  unfold st1 at s1
  unfold st2 at s2
  unfold st3 at s3
  rw [rep_85] at s1
  rw [rep_51] at s2
  rw [rep_15] at s3
  refine ⟨x1, x2, x3, x4, x5, x6, ?_, ?_, ?_, ?_, ?_, ?_, ?_, ?_⟩
  · rw [show (bits .and .u64 ((x : Int) / 2) 6148914691236517205) = _ from and_half x 2 6148914691236517205 hx (by decide), show (bits .and .u64 (x : Int) 6148914691236517205) = _ from u64_and_nat x 6148914691236517205 hx (by decide), ← Int.natCast_add, s1]
    exact wrapU _ b1
  · rw [show (bits .and .u64 ((x1 : Int) / 4) 3689348814741910323) = _ from and_half x1 4 3689348814741910323 b1 (by decide), show (bits .and .u64 (x1 : Int) 3689348814741910323) = _ from u64_and_nat x1 3689348814741910323 b1 (by decide), ← Int.natCast_add, s2]
    exact wrapU _ b2
  · rw [show (x2 : Int) / 16 + (x2 : Int) = ((x2 / 16 + x2 : Nat) : Int) by omega, wrapU _ b2', ← s3]
    exact u64_and_nat (x2 / 16 + x2) 1085102592571150095 b2' (by decide)
  · rw [show (x3 : Int) + (x3 : Int) / 256 = ((x4 : Nat) : Int) by omega]
    exact wrapU _ (by omega)
  · rw [show (x4 : Int) + (x4 : Int) / 65536 = ((x5 : Nat) : Int) by omega]
    exact wrapU _ (by omega)
  · rw [show (x5 : Int) + (x5 : Int) / 4294967296 = ((x6 : Nat) : Int) by omega]
    exact wrapU _ (by omega)
  · exact IntWalk.i64_in _ (by omega)
  · rw [i64_and127 _ b6, hm]

set_option maxHeartbeats 1000000 in
theorem ones_at (x : Nat) (hx : x < 18446744073709551616) (w : World) : Calls Tryd.prog 79 #[.int .u64 (x : Int)] w fun e w' => e = .returned (.int .i64 ((ones 64 x : Nat) : Int)) ∧ w = w' := by
  obtain ⟨x1, x2, x3, x4, x5, x6, E1, E2, E3, E4, E5, E6, E7, E8⟩ := count_walk x hx
  generalize ones 64 x = r at *
  clear hx
  go_enter Tryd.func79, Tryd.ntmps79
  go_wp2
  go_ret
  exact ⟨rfl, rfl⟩

/-- math/bits' table lies in its variable. -/
def TabAt (w : World) : Prop := ∀ j, j < 64 → w.cell? ⟨0, j, none⟩ = some (.int .u8 ((Lib.deBruijn64tab.getD j 0 : Nat) : Int))

theorem tz_key (x a : Nat) (hx : x < 18446744073709551616) (hx0 : x ≠ 0) (hlow : x &&& (18446744073709551616 - x) = a) :
    IntKind.u64.wrap (bits .and .u64 (x : Int) (IntKind.u64.wrap (-(x : Int))) * 285870213051353865) / 288230376151711744 = ((a * 285870213051353865 % 18446744073709551616 / 288230376151711744 : Nat) : Int) := by
  have e1 : IntKind.u64.wrap (-(x : Int)) = ((18446744073709551616 - x : Nat) : Int) := by rw [IntKind.wrap_u64]; omega
  rw [e1, u64_and_nat x _ hx (by omega), hlow, IntKind.wrap_u64]
  omega

set_option maxHeartbeats 1000000 in
theorem tz_core (x k idx : Nat) (w : World) (hx0 : ((x : Int) == 0) = false)
    (key : IntKind.u64.wrap (bits .and .u64 (x : Int) (IntKind.u64.wrap (-(x : Int))) * 285870213051353865) / 288230376151711744 = (idx : Int))
    (hi : idx < 64) (hk : k < 64) (hcell : w.cell? ⟨0, idx, none⟩ = some (.int .u8 k)) :
    Calls Tryd.prog 81 #[.int .u64 (x : Int)] w fun e w' => e = .returned (.int .i64 (k : Int)) ∧ w = w' := by
  go_enter Tryd.func81, Tryd.ntmps81
  go_wp2_with (simp only [key])
  go_ret
  exact ⟨rfl, rfl⟩

theorem tz_at (x : Nat) (hx : x < 18446744073709551616) (h0 : x ≠ 0) (w : World) (hT : TabAt w) : Calls Tryd.prog 81 #[.int .u64 (x : Int)] w fun e w' => e = .returned (.int .i64 ((Lib.ctz 64 x : Nat) : Int)) ∧ w = w' := by
  obtain ⟨hlow, hk⟩ := Lib.lowest_bit 64 x h0 hx
  obtain ⟨hi, htab⟩ := Lib.deBruijn64_at _ hk
  have hcell := hT _ hi
  rw [htab] at hcell
  exact tz_core x _ _ w (by simp; omega) (tz_key x _ hx h0 hlow) hi hk hcell

end Go.Proofs.YtmhcnkjmnbnldaaDoor

namespace Go.Proofs.YtmhcnkjmnbnldaaDoor
open Go.RowKit

/-- The sheet has these puts now; its notes may lie elsewhere. -/
def Onto (w : World) (b gp : Nat) (B : List Int) (ps : List (Int × Int)) (w' : World) : Prop :=
  ∃ gp', (gp' = gp ∨ (w.heap.size ≤ gp' ∧ gp' < w'.heap.size)) ∧ ShAt w' b gp' B ps ∧ Keeps [b, gp] w w'

theorem Onto.refl {w : World} {b gp : Nat} {B : List Int} {ps : List (Int × Int)} (h : ShAt w b gp B ps) : Onto w b gp B ps w := ⟨gp, .inl rfl, h, Keeps.refl _ _⟩

theorem Onto.post {w w' : World} {b gp : Nat} {B : List Int} {ps : List (Int × Int)} (h : Onto w b gp B ps w') : PutPost w b gp B ps (.returned (.tuple #[])) w' := ⟨rfl, h⟩

/-- Further puts. -/
theorem Onto.trans {w w1 w2 : World} {b gp gp1 : Nat} {B : List Int} {qs : List (Int × Int)} (hg : gp1 = gp ∨ (w.heap.size ≤ gp1 ∧ gp1 < w1.heap.size)) (hk : Keeps [b, gp] w w1) (h : Onto w1 b gp1 B qs w2) : Onto w b gp B qs w2 := by
  obtain ⟨gp2, h1, h2, h3⟩ := h
  have z1 := hk.size
  have z2 := h3.size
  refine ⟨gp2, by omega, h2, hk.trans h3 fun x hx => ?_⟩
  simp only [List.mem_cons, List.not_mem_nil, or_false] at hx ⊢
  omega

theorem Onto.mono {w w1 w2 : World} {b gp : Nat} {B : List Int} {qs : List (Int × Int)} (hk : Keeps [] w w1) (hgp : gp < w.heap.size) (h : Onto w1 b gp B qs w2) : Onto w b gp B qs w2 := by
  obtain ⟨gp2, h1, h2, h3⟩ := h
  have z1 := hk.size
  exact ⟨gp2, by omega, h2, (hk.mono (by simp)).trans h3 fun x hx => .inl hx⟩

theorem emptyPut (ps : List (Int × Int)) (c k : Nat) (hc : c < 256) (hk : k < 8) : putN (ps ++ emptyTo c k) ((1080 + c * 8 + k : Nat) : Int) 0 = ps ++ emptyTo c (k + 1) := by
  unfold putN
  rw [if_pos (inB_iff.2 ⟨by omega, by omega⟩), emptyTo_succ, List.append_assoc]

set_option maxHeartbeats 1000000 in
theorem paEmpty_at {w : World} {b gp : Nat} {B : List Int} {ps : List (Int × Int)} (h : ShAt w b gp B ps) (hn : ps.length ≤ 999000) (c : Nat) (hc : c < 256) :
    Calls Tryd.prog 62 #[.pointer (some ⟨b, 0, none⟩), .int .i64 (c : Int)] w (PutPost w b gp B (ps ++ emptyPs c)) := by
  have HS := Lib.hid h
  have HN := Lib.hid hn
  have HBL : ∀ w', Hid (Calls Tryd.prog 36 #[.int .i64 (c : Int)] w' fun e w'' => e = .returned (.int .i64 ((1080 + c * 8 : Nat) : Int)) ∧ w' = w'') := fun w' => by
    have := txBlock_at (c : Int) w'
    rw [show blockN (c : Int) = ((1080 + c * 8 : Nat) : Int) by unfold blockN; rw [if_neg (by omega)]; omega] at this
    exact this
  clear h hn
  go_enter Tryd.func62, Tryd.ntmps62
  go_wp2_with fail
  go_loopg [5] 8 (fun gh s5 wx => ∃ k : Nat, k + gh = 8 ∧ s5 = .int .i64 (k : Int) ∧ Hid (Onto w b gp B (ps ++ emptyTo c k) wx))
  case atStart => exact ⟨0, by omega, rfl, by show Onto _ _ _ _ _ _; rw [show emptyTo c 0 = [] from rfl, List.append_nil]; exact Onto.refl HS.out⟩
  case round =>
    obtain ⟨k, hk, rfl, HR⟩ := hrel
    cases gk with
    | zero =>
      obtain rfl : k = 8 := by omega
      clear hk
      go_wp2_with fail
      go_end0
      exact Onto.post HR.out
    | succ gg =>
      have hk8 : k < 8 := by omega
      have hlt : (k : Int) < 8 := by omega
      have hk0 : (0 : Int) ≤ (k : Int) := by omega
      have HP : Hid (∀ x : Int, x = ((1080 + c * 8 + k : Nat) : Int) → Calls Tryd.prog 23 #[.pointer (some ⟨b, 0, none⟩), .int .i64 x, .int .u64 0] wr fun e w' => e = .returned (.tuple #[]) ∧ Hid (Onto w b gp B (ps ++ emptyTo c (k + 1)) w')) := by
        intro x hx
        subst hx
        obtain ⟨gp1, h1, h2, h3⟩ := HR.out
        refine (txPut_at h2 (by rw [List.length_append, emptyTo_len]; have := HN.out; omega) _ 0).mono ?_
        rintro e w' ⟨rfl, h4⟩
        rw [emptyPut ps c k hc hk8] at h4
        exact ⟨rfl, Onto.trans h1 h3 h4⟩
      have HB := HBL wr
      clear HR HBL
      go_wp2_with fail
      refine HB.out.mono ?_; rintro e w' ⟨rfl, rfl⟩
      go_wp2_with fail
      refine (HP.out _ (by omega)).mono ?_; rintro e w' ⟨rfl, HQ⟩
      go_wp2_with fail
      go_roundg gg
      case measure => omega
      case rel => exact ⟨k + 1, by omega, by go_num, HQ⟩

theorem freeTo_le (X : List Int) (n : Nat) : (freeTo X n).length ≤ n := by
  unfold freeTo
  have := List.length_filter_le (fun b => b != 0 && !usedN X b) (List.range n)
  simpa using this

set_option maxHeartbeats 1000000 in
theorem paFree_at {w : World} {b gp : Nat} {B : List Int} {ps : List (Int × Int)} (h : ShAt w b gp B ps) (h64 : In64 (putAll B ps)) :
    Calls Tryd.prog 59 #[.pointer (some ⟨b, 0, none⟩)] w fun e w' => e = .returned (.int .i64 (((freeL (putAll B ps)).length : Nat) : Int)) ∧ w = w' := by
  have HS := Lib.hid h
  have H64 := Lib.hid h64
  clear h h64
  go_enter Tryd.func59, Tryd.ntmps59
  go_wp2_with fail
  go_loop [3, 5] (fun s3 s5 => ∃ k : Nat, k ≤ 4 ∧ s5 = .int .i64 (k : Int) ∧ s3 = .int .i64 (((freeTo (putAll B ps) (64 * k)).length : Nat) : Int)) (fun _ s5 => 4 - (intOf s5).toNat)
  case atStart => exact ⟨0, by omega, rfl, rfl⟩
  case round =>
    obtain ⟨k, hk, rfl, rfl⟩ := hrel
    by_cases hlt : k < 4
    · have hlt' : (k : Int) < 4 := by omega
      have hk0 : (0 : Int) ≤ (k : Int) := by omega
      have HL := Lib.hid (freeTo_len H64.out k)
      have hle := freeTo_le (putAll B ps) (64 * k)
      have hle2 := freeTo_le (putAll B ps) (64 * (k + 1))
      have e := HL.out
      have HI := Lib.hid (paFreeIn_at HS.out H64.out k hlt)
      have HO := Lib.hid (ones_at (frW (putAll B ps) k) (frW_lt (putAll B ps) k) w)
      have ho : ones 64 (frW (putAll B ps) k) ≤ 256 := by omega
      rw [e] at hle2
      clear e hle2
      generalize ones 64 (frW (putAll B ps) k) = o at *
      generalize hf : frW (putAll B ps) k = f at *
      clear hf
      generalize hq : (freeTo (putAll B ps) (64 * k)).length = q at *
      clear hq
      go_wp2_with fail
      refine HI.out.mono ?_; rintro e w' ⟨rfl, rfl⟩
      go_wp2_with fail
      refine HO.out.mono ?_; rintro e w' ⟨rfl, rfl⟩
      go_wp2_with fail
      go_round
      case rel => exact ⟨k + 1, by omega, by go_num, by rw [HL.out]; go_num⟩
      case measure => simp [intOf]; omega
    · obtain rfl : k = 4 := by omega
      go_wp2_with fail
      go_ret
      exact ⟨rfl, rfl⟩

end Go.Proofs.YtmhcnkjmnbnldaaDoor

namespace Go.Proofs.YtmhcnkjmnbnldaaDoor
open Go.RowKit

def i64s (l : List Nat) : List Value := l.map fun x : Nat => Value.int .i64 (x : Int)

theorem i64s_len (l : List Nat) : (i64s l).length = l.length := by simp [i64s]
theorem i64s_get {l : List Nat} {j : Nat} (h : j < l.length) : (i64s l)[j]? = some (.int .i64 ((l.getD j 0 : Nat) : Int)) := by simp [i64s, h]
theorem i64s_append (l m : List Nat) : i64s (l ++ m) = i64s l ++ i64s m := by simp [i64s]

theorem Tryd.info_int : (Tryd.prog.info? 3).map (fun i => (i.zero, i.size, i.bytes)) = some (some (.int .i64 0), 1, 8) := by kernel_rfl

theorem make_ints (n : Nat) (hn : n ≤ 100000) (w : World) : (Instr.makeSlice 34 (.int .i64 0) (.int .i64 (n : Int))).run Tryd.prog w =
    .ok (.slice (some ⟨w.heap.size, 0, none⟩) 0 n) (w.alloc (.cells (madeCells #[.int .i64 0] n) 3)) := by
  obtain ⟨i0, hi, hz0, hz1, hz2⟩ := info_parts Tryd.info_int
  have := run_make (P := Tryd.prog) w 34 3 i0 _ Tryd.underlying34 hi hz0 .i64 .i64 0 (n : Int) (by omega) (by omega) (by rw [hz2]; omega) (by omega)
  rw [hz1, Int.toNat_natCast, Nat.mul_one] at this
  exact this

theorem freeTo_prefix (X : List Int) (k m : Nat) (h : k ≤ m) : ∃ r, freeTo X m = freeTo X k ++ r := by
  obtain ⟨d, rfl⟩ : ∃ d, m = k + d := ⟨m - k, by omega⟩
  exact ⟨_, filter_range_add _ k d⟩

theorem bitL_none {y : Nat} (hy : y < 18446744073709551616) (h : bitL y = []) : y = 0 := by
  by_cases h0 : y = 0
  · exact h0
  · have := (bitL_next y h0 hy).2
    rw [h] at this
    cases this

/-- What a call leaves that makes a list of numbers. -/
def MadeInts (w : World) (l : List Nat) (e : Ending) (w' : World) : Prop :=
  ∃ v g, e = .returned v ∧ Reads w' v g (i64s l) ∧ w.heap.size ≤ g ∧ g < w'.heap.size ∧ Keeps [] w w'

/-- The list as it grows. -/
def Grows (w : World) (n : Nat) (l : List Nat) (v : Value) (wx : World) : Prop :=
  wx.ownsRow w.heap.size 3 1 v l.length (i64s l) ∧ Keeps [] w wx ∧ l.length ≤ n ∧ v ≠ .slice none 0 0

theorem Grows.made {w wx : World} {n : Nat} {l : List Nat} {v : Value} (h : Grows w n l v wx) : MadeInts w l (.returned v) wx := by
  obtain ⟨h1, h2, h3, h4⟩ := h
  obtain ⟨h5, h6⟩ := h1
  rcases h6 with ⟨rfl, -⟩ | ⟨g, cap, cur, rfl, hg, hh, h7, h8, h9, h10⟩
  · exact absurd rfl h4
  · have hlt : g < wx.heap.size := (Array.getElem?_eq_some_iff.1 hh).1
    exact ⟨_, g, rfl, Owns.reads ⟨h5, _, cap, rfl, h7, h8, fun _ => ⟨rfl, cur, hh, h9, h10⟩⟩, hg, hlt, h2⟩

theorem TabAt.keep {w w' : World} (h : TabAt w) (hk : Keeps [] w w') : TabAt w' := fun j hj => by
  have h1 := h j hj
  rw [World.cell?_of_block (w := w) (hk.block _ (lt_of_cell h1) (by simp))]
  exact h1

theorem low_step (y : Nat) (hy : y < 18446744073709551616) (h0 : y ≠ 0) : bits .and .u64 (y : Int) (IntKind.u64.wrap ((y : Int) - 1)) = ((y &&& (y - 1) : Nat) : Int) ∧ y &&& (y - 1) < 18446744073709551616 := by
  have e : IntKind.u64.wrap ((y : Int) - 1) = ((y - 1 : Nat) : Int) := by rw [IntKind.wrap_u64]; omega
  rw [e]
  exact ⟨u64_and_nat y (y - 1) hy (by omega), Nat.lt_of_le_of_lt Nat.and_le_left hy⟩

set_option maxRecDepth 100000 in
set_option maxHeartbeats 4000000 in
theorem paFirstFree_at {w : World} {b gp : Nat} {B : List Int} {ps : List (Int × Int)} (h : ShAt w b gp B ps) (h64 : In64 (putAll B ps)) (hT : TabAt w) (n : Nat) (hn : n ≤ 100000) :
    Calls Tryd.prog 60 #[.pointer (some ⟨b, 0, none⟩), .int .i64 (n : Int)] w (MadeInts w ((freeL (putAll B ps)).take n)) := by
  obtain ⟨i0, hi, hz0, hz1, hz2⟩ := info_parts Tryd.info_int
  have HS := Lib.hid h
  have H64 := Lib.hid h64
  have HT := Lib.hid hT
  clear h h64 hT
  have hmk := make_ints n hn w
  have HG0 : Hid (Grows w n [] (.slice (some ⟨w.heap.size, 0, none⟩) 0 n) (w.alloc (.cells (madeCells #[.int .i64 0] n) 3))) := by
    refine ⟨⟨rfl, .inr ⟨w.heap.size, n, madeCells #[.int .i64 0] n, rfl, Nat.le_refl _, Blk.new _ _ _, by simp, by unfold maxLen; omega, by simp [madeCells], by simp [i64s]⟩⟩, (Keeps.refl _ _).alloc _, by simp, by simp⟩
  go_enter Tryd.func60, Tryd.ntmps60
  go_wp2_with fail
  go_step3
  go_wp2_with fail
  go_step3
  go_wp2_with fail
  clear hmk
  go_loopg [5, 10] 4 (fun gh s5 s10 wx => ∃ k : Nat, k + gh = 4 ∧ s10 = .int .i64 (k : Int) ∧ Hid (Grows w n (freeTo (putAll B ps) (64 * k)) s5 wx))
  case atStart => exact ⟨0, by omega, rfl, HG0.out⟩
  case round =>
    obtain ⟨k, hk, rfl, HR⟩ := hrel
    cases gk with
    | zero =>
      obtain rfl : k = 4 := by omega
      clear hk
      have HM : Hid (MadeInts w ((freeL (putAll B ps)).take n) (.returned u5) wr) := by
        show MadeInts _ _ _ _
        have e : freeL (putAll B ps) = freeTo (putAll B ps) (64 * 4) := rfl
        rw [e, List.take_of_length_le HR.out.2.2.1]
        exact HR.out.made
      go_wp2_with fail
      rw [Exit.noGoto_ret]
      go_ret
      exact HM.out
    | succ gg =>
      have hk4 : k < 4 := by omega
      have hlt : (k : Int) < 4 := by omega
      have hk0 : (0 : Int) ≤ (k : Int) := by omega
      have HF := Lib.hid (paFreeIn_at (HS.out.keep HR.out.2.1 (by simp) (by simp)) H64.out k hk4)
      have HY := Lib.hid (frW_lt (putAll B ps) k)
      go_wp2_with fail
      refine HF.out.mono ?_; rintro e w' ⟨rfl, rfl⟩
      clear HF
      go_wp2_with fail
      clear hk0 hlt
      go_loopg [5, 7] (bitL (frW (putAll B ps) k)).length (fun gh s5 s7 wx => ∃ (y : Nat) (pre : List Nat), gh = (bitL y).length ∧ s7 = .int .u64 (y : Int) ∧
        Hid (y < 18446744073709551616 ∧ bitL (frW (putAll B ps) k) = pre ++ bitL y ∧ Grows w n (freeTo (putAll B ps) (64 * k) ++ pre.map (64 * k + ·)) s5 wx))
      case atStart => exact ⟨_, [], rfl, rfl, HY.out, rfl, by rw [List.map_nil, List.append_nil]; exact HR.out⟩
      case round =>
        clear HR HY
        obtain ⟨y, pre, hgh, rfl, HR⟩ := hrel
        cases gk with
        | zero =>
          have hy : y = 0 := bitL_none HR.out.1 (List.eq_nil_of_length_eq_zero hgh.symm)
          subst hy
          have HR2 : Hid (Grows w n (freeTo (putAll B ps) (64 * (k + 1))) u5 wr) := by
            show Grows _ _ _ _ _
            obtain ⟨-, h2, h3⟩ := HR.out
            rw [freeTo_word H64.out, h2, bitL_zero, List.append_nil]
            exact h3
          clear HR hgh
          have hlt : (k : Int) < 4 := by omega
          have hk0 : (0 : Int) ≤ (k : Int) := by omega
          go_wp2_with fail
          go_roundg gg
          case measure => omega
          case rel => exact ⟨k + 1, by omega, by go_num, HR2⟩
        | succ g2 =>
          have hy0 : y ≠ 0 := by
            intro e
            subst e
            rw [bitL_zero] at hgh
            cases hgh
          obtain ⟨hc, hb⟩ := bitL_next y hy0 HR.out.1
          have e0 : ((y : Int) == 0) = false := by simp; omega
          have e1 : ((y : Int) != 0) = true := by simp; omega
          by_cases hfull : (freeTo (putAll B ps) (64 * k) ++ pre.map (64 * k + ·)).length = n
          · have HM : Hid (MadeInts w ((freeL (putAll B ps)).take n) (.returned u5) wr) := by
              show MadeInts _ _ _ _
              obtain ⟨-, h2, h3⟩ := HR.out
              obtain ⟨r, hr⟩ := freeTo_prefix (putAll B ps) (64 * (k + 1)) 256 (by omega)
              have e : freeL (putAll B ps) = freeTo (putAll B ps) 256 := rfl
              rw [freeTo_word H64.out, h2, List.map_append] at hr
              rw [e, hr, ← List.append_assoc (freeTo (putAll B ps) (64 * k)), List.append_assoc, List.take_left' hfull]
              exact h3.made
            obtain ⟨a, cap, rfl, q1, q2⟩ := ownsRow_val HR.out.2.2.1
            rw [hfull] at HM ⊢
            clear HR hgh hb hc hy0
            go_wp2_with fail
            rw [Exit.noGoto_ret]
            go_ret
            exact HM.out
          · obtain ⟨f1, f2, ⟨f3, f4, f5, f6⟩⟩ := HR.out
            have HTZ := Lib.hid (tz_at y f1 hy0 wr (HT.out.keep f4))
            obtain ⟨hlow, hlow2⟩ := low_step y f1 hy0
            have HLT := Lib.hid hlow2
            have hlen : (freeTo (putAll B ps) (64 * k) ++ pre.map (64 * k + ·)).length + 1 ≤ n := by omega
            have HPRE : Hid (bitL (frW (putAll B ps) k) = (pre ++ [Lib.ctz 64 y]) ++ bitL (y &&& (y - 1))) := by
              show _ = _
              rw [f2, hb, List.append_assoc]
              rfl
            have HMEAS : Hid (g2 = (bitL (y &&& (y - 1))).length) := by
              show _ = _
              rw [hb, List.length_cons] at hgh
              omega
            have HLST : Hid (freeTo (putAll B ps) (64 * k) ++ (pre ++ [Lib.ctz 64 y]).map (64 * k + ·) = (freeTo (putAll B ps) (64 * k) ++ pre.map (64 * k + ·)) ++ [64 * k + Lib.ctz 64 y]) := by
              show _ = _
              rw [List.map_append, List.append_assoc]
              rfl
            obtain ⟨a, cap, rfl, q1, q2⟩ := ownsRow_val f3
            have HOWN := Lib.hid f3
            have HKP := Lib.hid f4
            have hws := f4.size
            clear f1 f2 f3 f4 f5 f6 HR hgh hb hlow2
            generalize freeTo (putAll B ps) (64 * k) ++ pre.map (64 * k + ·) = L at *
            generalize y &&& (y - 1) = z at *
            generalize Lib.ctz 64 y = c at *
            have HI : Hid (i64s (L ++ [64 * k + c]) = i64s L ++ [.int .i64 ((k : Int) * 64 + (c : Int))]) := by
              show _ = _
              rw [i64s_append]
              have : ((64 * k + c : Nat) : Int) = (k : Int) * 64 + (c : Int) := by omega
              simp only [i64s, List.map_cons, List.map_nil, this]
            have HLL : Hid ((L ++ [64 * k + c]).length = L.length + 1) := by show _ = _; simp
            have hlt : (k : Int) < 4 := by omega
            have hk0 : (0 : Int) ≤ (k : Int) := by omega
            have hc0 : (0 : Int) ≤ (c : Int) := by omega
            have hc1 : (c : Int) < 64 := by omega
            generalize L.length = q at *
            have e2 : (q == n) = false := by simpa using hfull
            have e3 : ((q : Int) == (n : Int)) = false := by simp; omega
            go_wp2_with fail
            refine HTZ.out.mono ?_; rintro e w' ⟨rfl, rfl⟩
            go_wp2_with (at_builtin; refine wpList_append_own _ rfl _ _ 34 rfl w.heap.size 3 i0 (.int .i64 0) 1 8 Tryd.underlying34 hi hz0 hz1 hz2 rfl (by decide) (.slice a q cap) q _ rfl (HOWN.out.alloc _) ⟨wr.heap.size, 0, none⟩ 1 1 [.int .i64 ((k : Int) * 64 + (c : Int))] rfl rfl ?c1 ?c2 (by unfold maxLen; omega) (by omega) (by simp; omega) ?_)
            case c1 => exact new_cells _ [_] _ _ rfl
            case c2 => simp [Value.oneCell']
            intro v' w1 hown1 hgrow hnil
            have HO1 := Lib.hid hown1
            have HK1 := Lib.hid ((HKP.out.alloc _).grown hgrow (ownsRow_block HOWN.out))
            have HNIL : Hid (v' ≠ .slice none 0 0) := hnil
            clear hown1 hgrow hnil
            go_wp2_with fail
            go_roundg g2
            case measure => omega
            case rel =>
              refine ⟨z, pre ++ [c], HMEAS.out, rfl, HLT.out, HPRE.out, ?_⟩
              rw [HLST.out]
              refine ⟨?_, HK1.out, by rw [HLL.out]; exact hlen, HNIL.out⟩
              rw [HI.out, HLL.out]
              exact HO1.out

end Go.Proofs.YtmhcnkjmnbnldaaDoor

namespace Go.Proofs.YtmhcnkjmnbnldaaDoor
open Go.RowKit

/-- n.Blocks = l -/
theorem store_B {w : World} {g T : Nat} {n : Ino} {v : Value} {l : List Int} (hb : Blk w g (inoC n v) T) (hn : n.B.length = 13) (hl : l.length = 13) :
    ∃ w', (storeVar 22 ⟨g, 4, none⟩ (.agg (zs l).toArray)).run Tryd.prog w = .ok () w' ∧ Blk w' g (inoC { n with B := l } v) T ∧ Keeps [g] w w' := by
  refine ⟨_, run_storeVar_cells g 4 (zs l) _ (by rw [zs_len, hl]; exact size_n13) hb (by rw [inoC, List.size_toArray, inoL_len, zs_len, hn, hl]; omega) (zs_one l), ?_, (Keeps.refl _ _).setRow (by simp) _⟩
  have e : ((inoC n v).toList.take 4 ++ zs l ++ (inoC n v).toList.drop (4 + (zs l).length)).toArray = inoC { n with B := l } v := by
    have hd : (inoC n v).toList.drop (4 + (zs l).length) = [v] := by
      have : (inoC n v).toList = [.int .i64 n.F, .int .i64 n.K, .int .i64 n.L, .int .i64 n.S] ++ (zs n.B ++ [v]) := rfl
      rw [this, ← List.drop_drop, List.drop_left' (by rfl), List.drop_left' (by rw [zs_len, zs_len, hn, hl])]
    rw [hd]
    rfl
  rw [e]
  exact setRow_blk hb

/-- n.Entries = v -/
theorem store_E {w : World} {g T : Nat} {n : Ino} {v u : Value} {E : List (ByteArray × Int)} (hb : Blk w g (inoC n v) T) (hn : n.B.length = 13) : Blk (w.setCell ⟨g, 17, none⟩ u) g (inoC { n with E := E } u) T := by
  have := hb.set 17 u
  have e : (inoC n v).setIfInBounds 17 u = inoC { n with E := E } u := by
    have h1 : inoC n v = (([.int .i64 n.F, .int .i64 n.K, .int .i64 n.L, .int .i64 n.S] : List Value) ++ (zs n.B ++ [v])).toArray := rfl
    rw [h1, List.setIfInBounds_toArray, List.set_append_right _ _ (by simp), List.set_append_right _ _ (by rw [zs_len, hn]; simp), zs_len, hn]
    rfl
  rw [e] at this
  exact this

theorem zs_nat {l : List Int} (h : ∀ k, 0 ≤ l.getD k 0) : i64s (l.map Int.toNat) = zs l := by
  apply List.ext_getElem (by simp [i64s, zs])
  intro j h1 h2
  have hj : j < l.length := by simpa [zs] using h2
  have := h j
  rw [List.getD_eq_getElem?_getD, List.getElem?_eq_getElem hj, Option.getD_some] at this
  simp [i64s, zs]
  omega

end Go.Proofs.YtmhcnkjmnbnldaaDoor

namespace Go.Proofs.YtmhcnkjmnbnldaaDoor
open Go.RowKit

set_option maxHeartbeats 1000000 in
theorem paTake_less {w : World} {b gp : Nat} {B : List Int} {ps : List (Int × Int)} (h : ShAt w b gp B ps) (h64 : In64 (putAll B ps)) (n : Nat) (hn : (freeL (putAll B ps)).length < n) :
    Calls Tryd.prog 32 #[.pointer (some ⟨b, 0, none⟩), .int .i64 (n : Int)] w fun e w' => e = .returned (.tuple #[.slice none 0 0, .int .i64 7]) ∧ w = w' := by
  have HF := Lib.hid (paFree_at h h64)
  generalize (freeL (putAll B ps)).length = f at *
  have h0 : ¬ (n : Int) < 0 := by omega
  have h1 : (f : Int) < (n : Int) := by omega
  clear h h64
  go_enter Tryd.func32, Tryd.ntmps32
  go_wp2_with fail
  refine HF.out.mono ?_; rintro e w' ⟨rfl, rfl⟩
  go_wp2_with fail
  go_ret2
  exact ⟨rfl, rfl⟩

/-- What Take leaves that gives out. -/
def TakePost (w : World) (b gp : Nat) (B : List Int) (ps : List (Int × Int)) (l : List Nat) (e : Ending) (w' : World) : Prop :=
  ∃ v g, e = .returned (.tuple #[v, .int .i64 0]) ∧ Reads w' v g (i64s l) ∧ w.heap.size ≤ g ∧ g < w'.heap.size ∧ (∃ gp', (gp' = gp ∨ (w.heap.size ≤ gp' ∧ gp' < w'.heap.size)) ∧ gp' ≠ g ∧ ShAt w' b gp' B (ps ++ takePs (putAll B ps) l) ∧ Keeps [b, gp] w w')

theorem takePs_take_succ (X : List Int) (l : List Nat) (k : Nat) (hk : k < l.length) : takePs X (l.take (k + 1)) = takePs X (l.take k) ++ (setPs (putAll X (takePs X (l.take k))) (l.getD k 0) true ++ emptyPs (l.getD k 0)) := by
  rw [List.take_succ_eq_append_getElem hk, takePs_snoc]
  simp [List.getD_eq_getElem?_getD, hk]

set_option maxRecDepth 100000 in
set_option maxHeartbeats 4000000 in
theorem paTake_ok {w : World} {b gp : Nat} {B : List Int} {ps : List (Int × Int)} (h : ShAt w b gp B ps) (h64 : In64 (putAll B ps)) (hT : TabAt w) (hgp : gp < w.heap.size) (hps : ps.length ≤ 900000) (n : Nat) (hn : n ≤ (freeL (putAll B ps)).length) :
    Calls Tryd.prog 32 #[.pointer (some ⟨b, 0, none⟩), .int .i64 (n : Int)] w (TakePost w b gp B ps ((freeL (putAll B ps)).take n)) := by
  have HF := Lib.hid (paFree_at h h64)
  have hfl := freeL_len (putAll B ps)
  have HFF := Lib.hid (paFirstFree_at h h64 hT n (by omega))
  have HIN : Hid (∀ c ∈ (freeL (putAll B ps)).take n, c ≠ 0 ∧ c < 256) := fun c hc => by
    have := freeTo_mem.1 (List.mem_of_mem_take hc)
    exact ⟨this.2.1, this.1⟩
  have HLEN : Hid (((freeL (putAll B ps)).take n).length = n) := by show _ = _; rw [List.length_take, Nat.min_eq_left hn]
  have HS := Lib.hid h
  have H64 := Lib.hid h64
  have HLX : Hid ((putAll B ps).length = 3128) := h.raw.lx
  have hbl := h.raw.lt
  have HPS := Lib.hid hps
  generalize (freeL (putAll B ps)).take n = l at *
  generalize (freeL (putAll B ps)).length = f at *
  clear h h64 hT hps
  have h0 : ¬ (n : Int) < 0 := by omega
  have h1 : ¬ (f : Int) < (n : Int) := by omega
  go_enter Tryd.func32, Tryd.ntmps32
  go_wp2_with fail
  refine HF.out.mono ?_; rintro e w' ⟨rfl, rfl⟩
  go_wp2_with fail
  refine HFF.out.mono ?_; rintro e w1 ⟨v, g, rfl, hr, hg1, hg2, hk1⟩
  clear HF HFF h1 h0
  have hrv := hr
  obtain ⟨a, cap, rfl, q1, q2, -⟩ := hrv
  rw [i64s_len, HLEN.out] at hr ⊢
  rw [i64s_len, HLEN.out] at q1
  have HR := Lib.hid hr
  have HK1 := Lib.hid hk1
  have hz := hk1.size
  clear hr hk1
  unfold maxLen at q2
  go_wp2_with fail
  go_loopg [20] n (fun gh s20 wx => ∃ k : Nat, k + gh = n ∧ s20 = .int .i64 (k : Int) ∧ Hid (Onto w1 b gp B (ps ++ takePs (putAll B ps) (l.take k)) wx))
  case atStart => exact ⟨0, by omega, rfl, by show Onto _ _ _ _ _ _; rw [List.take_zero, show takePs (putAll B ps) [] = [] from rfl, List.append_nil]; exact Onto.refl (HS.out.keep HK1.out (by simp) (by simp))⟩
  case round =>
    obtain ⟨k, hk, rfl, HQ⟩ := hrel
    have hgne : ∀ x, x ∈ [b, gp] → g ≠ x := by
      intro x hx
      simp only [List.mem_cons, List.not_mem_nil, or_false] at hx
      omega
    obtain ⟨gp1, p1, p2, p3⟩ := HQ.out
    have HR1 := Lib.hid (HR.out.keep p3 (fun hm => hgne g hm rfl))
    have hz1 := p3.size
    cases gk with
    | zero =>
      obtain rfl : k = n := by omega
      have HM : Hid (TakePost w b gp B ps l (.returned (.tuple #[.slice a k cap, .int .i64 0])) wr) := by
        rw [List.take_of_length_le (by rw [HLEN.out]; omega)] at p2
        exact ⟨_, g, rfl, HR1.out, hg1, by omega, gp1, by omega, by omega, p2, (HK1.out.mono (by simp)).trans p3 fun x hx => .inl hx⟩
      have hlt : ¬ (k : Int) < (k : Int) := by omega
      clear p1 p2 p3 hgne hk
      go_wp2_with fail
      go_ret2
      exact HM.out
    | succ gg =>
      have hkn : k < n := by omega
      have hlt : (k : Int) < (n : Int) := by omega
      have hk0 : (0 : Int) ≤ (k : Int) := by omega
      have hkl : k < l.length := by rw [HLEN.out]; exact hkn
      have hc := HIN.out (l.getD k 0) (by rw [List.getD_eq_getElem?_getD, List.getElem?_eq_getElem hkl]; exact List.getElem_mem _)
      have hst := takePs_state (l.take k) (putAll B ps) H64.out HLX.out fun c hc => HIN.out c (List.mem_of_mem_take hc)
      have hpl := takePs_len (l.take k) (putAll B ps) fun c hc => HIN.out c (List.mem_of_mem_take hc)
      have hll : (l.take k).length ≤ 255 := by rw [List.length_take]; omega
      have HTS := Lib.hid (takePs_take_succ (putAll B ps) l k hkl)
      obtain ⟨a', cap', hv', r1, r2, r3⟩ := HR1.out
      cases hv'
      obtain ⟨hg3, off, rfl, r4⟩ := r3 (by intro e; have := congrArg List.length e; rw [i64s_len, List.length_nil] at this; omega)
      have hcell := (r4 k (by rw [i64s_len]; exact hkl)).trans (i64s_get hkl)
      generalize l.getD k 0 = c at *
      have HSET : Hid (Calls Tryd.prog 61 #[.pointer (some ⟨b, 0, none⟩), .int .i64 (c : Int), .bool true] wr (PutPost wr b gp1 B ((ps ++ takePs (putAll B ps) (l.take k)) ++ setPs (putAll (putAll B ps) (takePs (putAll B ps) (l.take k))) c true))) := by
        have := paSet_at p2 (by rw [putAll_append]; exact hst.1) (by rw [List.length_append, hpl]; have := HPS.out; omega) (c : Int) true
        rw [putAll_append, Int.toNat_natCast] at this
        exact this
      have HEM : ∀ (w' : World) (gp' : Nat), ShAt w' b gp' B ((ps ++ takePs (putAll B ps) (l.take k)) ++ setPs (putAll (putAll B ps) (takePs (putAll B ps) (l.take k))) c true) → Hid (Calls Tryd.prog 62 #[.pointer (some ⟨b, 0, none⟩), .int .i64 (c : Int)] w' (PutPost w' b gp' B (ps ++ takePs (putAll B ps) (l.take (k + 1))))) := by
        intro w' gp' hsh
        have := paEmpty_at hsh (by rw [List.length_append, List.length_append, hpl, setPs_len _ c hc.1 hc.2]; have := HPS.out; omega) c hc.2
        rw [HTS.out]
        show Calls _ _ _ _ _
        simpa only [List.append_assoc] using this
      have P1 := Lib.hid p1
      have P3 := Lib.hid p3
      have HEMH := Lib.hid HEM
      clear p1 p2 p3 hgne hc hst hpl hll r1 r2 r3 r4 hkl HR1 HQ HEM
      go_wp2_with fail
      refine HSET.out.mono ?_; rintro e w2 ⟨rfl, gp2, s1, s2, s3⟩
      have HE := (HEMH.out w2 gp2 s2)
      have S1 := Lib.hid s1
      have S3 := Lib.hid s3
      clear s1 s2 s3 HEMH HSET
      go_wp2_with fail
      refine HE.out.mono ?_; rintro e w3 ⟨rfl, t1⟩
      have HO : Hid (Onto w1 b gp B (ps ++ takePs (putAll B ps) (l.take (k + 1))) w3) := Onto.trans P1.out P3.out (Onto.trans S1.out S3.out t1)
      clear t1
      go_wp2_with fail
      go_roundg gg
      case measure => omega
      case rel => exact ⟨k + 1, by omega, by go_num, HO⟩

end Go.Proofs.YtmhcnkjmnbnldaaDoor

namespace Go.Proofs.YtmhcnkjmnbnldaaDoor
open Go.RowKit

def inodeN (i : Int) : Int := if i < 0 ∨ 32 ≤ i then -1 else 824 + i * 8

set_option maxHeartbeats 400000 in
theorem txInode_at (i : Int) (w : World) : Calls Tryd.prog 31 #[.int .i64 i] w fun e w' => e = .returned (.int .i64 (inodeN i)) ∧ w = w' := by
  rcases (show i < 0 ∨ 32 ≤ i ∨ (0 ≤ i ∧ i < 32) by omega) with h | h | ⟨h1, h2⟩
  · rw [inodeN, if_pos (.inl h)]
    go_enter Tryd.func31, Tryd.ntmps31
    go_wp2
    go_ret
    exact ⟨rfl, rfl⟩
  · rw [inodeN, if_pos (.inr h)]
    have h0 : ¬ i < 0 := by omega
    go_enter Tryd.func31, Tryd.ntmps31
    go_wp2
    go_ret
    exact ⟨rfl, rfl⟩
  · rw [inodeN, if_neg (by omega)]
    go_enter Tryd.func31, Tryd.ntmps31
    go_wp2
    go_ret
    exact ⟨rfl, rfl⟩

end Go.Proofs.YtmhcnkjmnbnldaaDoor

namespace Go.Proofs.YtmhcnkjmnbnldaaDoor
open Go.RowKit

/-- The numbers of an inode's blocks, as they are laid. -/
def laidL (n : Ino) (own : List Nat) : List Int := (own.take (blocksN n.E.length)).map (fun x : Nat => (x : Int)) ++ n.B.drop (blocksN n.E.length)

/-- The list's block, or 0. -/
def listI (n : Ino) (own : List Nat) : Nat := if blocksN n.E.length < own.length then own.getD (blocksN n.E.length) 0 else 0

/-- The puts of the first k blocks of entries. -/
def entPs (E : List (ByteArray × Int)) (l : List Int) (k : Nat) : List (Int × Int) := (List.range k).flatMap fun j => rowPs (1080 + 8 * (l.getD j 0).toNat) (entRow E j) 8

def listPs (n : Ino) (own : List Nat) : List (Int × Int) := if blocksN n.E.length < own.length then rowPs (1080 + 8 * listI n own) ((laidL n own).drop 5) 8 else []

/-- All that is put behind the taking. -/
def rowsPs (i : Nat) (n : Ino) (own : List Nat) : List (Int × Int) :=
  entPs n.E (laidL n own) (blocksN n.E.length) ++ (listPs n own ++ rowPs (824 + 8 * i) (inoRow n (laidL n own) (listI n own)) 8)

def layPs (X : List Int) (i : Nat) (n : Ino) (own : List Nat) : List (Int × Int) := takePs X own ++ rowsPs i n own

theorem entPs_succ (E : List (ByteArray × Int)) (l : List Int) (k : Nat) : entPs E l (k + 1) = entPs E l k ++ rowPs (1080 + 8 * (l.getD k 0).toNat) (entRow E k) 8 := by
  unfold entPs
  rw [List.range_succ, List.flatMap_append]
  simp

theorem entPs_len (E : List (ByteArray × Int)) (l : List Int) (k : Nat) : (entPs E l k).length = 8 * k := by
  induction k with
  | zero => rfl
  | succ k ih => rw [entPs_succ, List.length_append, ih, rowPs_len]; omega

theorem zs_i64s (l : List Nat) : zs (l.map fun x : Nat => (x : Int)) = i64s l := by simp [zs, i64s, Function.comp_def]

theorem blocks_le {n : Ino} (h : RightP n) : n.E.length ≤ 24 ∧ blocksN n.E.length ≤ 6 ∧ (n.E.length ≠ 0 → n.K = 2 ∧ DirP n) := by
  have : n.E.length ≤ 24 ∧ (n.E.length ≠ 0 → n.K = 2 ∧ DirP n) := by
    rcases h.2.2 with h | h
    · have := h.2.2.1
      exact ⟨by omega, fun h => absurd this h⟩
    · exact ⟨h.2.1, fun _ => h⟩
  refine ⟨this.1, ?_, this.2⟩
  unfold blocksN
  omega

theorem tagOk_right {n : Ino} (h : RightP n) : TagOk n := by
  obtain ⟨hF, hL, hK⟩ := h
  refine ⟨by omega, ?_, by omega, ?_⟩
  · rcases hK with hK | hK
    · have := hK.1; omega
    · have := hK.1; omega
  · rcases hK with hK | hK
    · have := hK.2.1; omega
    · have := hK.2.2.1; have := hK.2.1; omega

theorem entOk_right {n : Ino} (h : RightP n) (hN : ∀ k, k < n.E.length → (enm n.E k).size ≤ 9223372036854775807) : EntOk n.E := by
  have hb := blocks_le h
  refine ⟨by omega, hN, fun k hk => ?_⟩
  have := ((hb.2.2 (by omega)).2.2.2.2 k hk).2.1
  omega

theorem right_len {n : Ino} (h : RightP n) (hB : n.B.length = 13) : ∀ k, 0 ≤ n.B.getD k 0 ∧ n.B.getD k 0 < 256 := by
  intro k
  by_cases hk : k < 13
  · rcases h.2.2 with h | h
    · exact (h.2.2.2.2 k hk).1
    · rw [h.2.2.2.1, List.getD_eq_getElem?_getD, List.getElem?_replicate]
      split <;> simp
  · rw [List.getD_eq_getElem?_getD, List.getElem?_eq_none (by omega)]
    simp

theorem laidL_len {n : Ino} {own : List Nat} (hB : n.B.length = 13) (hc : blocksN n.E.length ≤ 13) (ho : blocksN n.E.length ≤ own.length) : (laidL n own).length = 13 := by
  simp [laidL, hB]; omega

theorem laidL_get {n : Ino} {own : List Nat} (ho : blocksN n.E.length ≤ own.length) (k : Nat) : (laidL n own).getD k 0 = if k < blocksN n.E.length then ((own.getD k 0 : Nat) : Int) else n.B.getD k 0 := by
  unfold laidL
  simp only [List.getD_eq_getElem?_getD, List.getElem?_append, List.length_map, List.length_take, Nat.min_eq_left ho, List.getElem?_map, List.getElem?_take, List.getElem?_drop]
  by_cases h : k < blocksN n.E.length
  · rw [if_pos h, if_pos h, if_pos h, List.getElem?_eq_getElem (by omega)]
    rfl
  · rw [if_neg h, if_neg h, show blocksN n.E.length + (k - blocksN n.E.length) = k by omega]

theorem laidL_256 {n : Ino} {own : List Nat} (h : RightP n) (hB : n.B.length = 13) (ho : blocksN n.E.length ≤ own.length) (h2 : ∀ c ∈ own, c ≠ 0 ∧ c < 256) : ∀ k, 0 ≤ (laidL n own).getD k 0 ∧ (laidL n own).getD k 0 < 256 := by
  intro k
  rw [laidL_get ho]
  split
  · rename_i hk
    have := h2 (own.getD k 0) (by rw [List.getD_eq_getElem?_getD, List.getElem?_eq_getElem (by omega)]; exact List.getElem_mem _)
    omega
  · exact right_len h hB k

/-- copy(l[:], own[:m]). -/
theorem copy_ints {w : World} {b T n cap gs m mc oc : Nat} {a : Option Addr} {dl : List Int} {own : List Nat} (hb : Blk w b (zs dl).toArray T) (hs : Reads w (.slice a own.length oc) gs (i64s own)) (hm : m ≤ n) (hfit : m ≤ dl.length) (hsl : m ≤ own.length) :
    ∃ v w', (∀ ty, (Builtin.copy_ #[34, 34] ty #[.slice (some ⟨b, 0, none⟩) n cap, .slice a m mc]).run Tryd.prog w = .ok v w') ∧ Blk w' b (zs ((own.take m).map (fun x : Nat => (x : Int)) ++ dl.drop m)).toArray T ∧ Keeps [b] w w' := by
  by_cases h0 : m = 0
  · subst h0
    refine ⟨_, w, fun ty => run_copy_none (P := Tryd.prog) w 34 34 ty 3 (some ⟨b, 0, none⟩) a n cap 0 mc Tryd.underlying34 size_int1 (by simp), ?_, Keeps.refl _ _⟩
    simpa using hb
  · obtain ⟨a', cap', hv, r1, r2, r3⟩ := hs
    obtain ⟨rfl, rfl⟩ : a = a' ∧ oc = cap' := by injection hv with h1 h2 h3; exact ⟨h1, h3⟩
    obtain ⟨hg, off, rfl, r4⟩ := r3 (by intro e; have := congrArg List.length e; rw [i64s_len, List.length_nil] at this; omega)
    have hl : (i64s (own.take m)).length = min m n := by rw [i64s_len, List.length_take]; omega
    refine ⟨_, _, fun ty => run_copy_row (P := Tryd.prog) w 34 34 ty 3 b 0 n cap ⟨gs, off, none⟩ m mc (zs dl).toArray T (i64s (own.take m)) Tryd.underlying34 size_int1 hb hl ?_ ?_ ?_, ?_, (Keeps.refl _ _).setRow (by simp) _⟩
    · intro j u hu
      have hj : j < m := by
        have := (List.getElem?_eq_some_iff.1 hu).1
        rw [hl] at this
        omega
      rw [i64s_get (by rw [List.length_take]; omega)] at hu
      rw [add_plain, r4 j (by rw [i64s_len]; omega), i64s_get (by omega), ← hu]
      simp [List.getD_eq_getElem?_getD, hj]
    · rw [hl, List.size_toArray, zs_len]; omega
    · intro u hu
      rw [← zs_i64s] at hu
      exact zs_one _ u hu
    · have e : ((zs dl).toArray.toList.take 0 ++ i64s (own.take m) ++ (zs dl).toArray.toList.drop (0 + (i64s (own.take m)).length)).toArray = (zs ((own.take m).map (fun x : Nat => (x : Int)) ++ dl.drop m)).toArray := by
        rw [hl, Nat.min_eq_left hm, zs_append, zs_i64s]
        simp [zs, List.map_drop]
      rw [e]
      exact setRow_blk hb

/-- own[:c]. -/
theorem slice_upto (a : Option Addr) (n cap c : Nat) (hc : c ≤ cap) (w : World) :
    (Instr.sliceAt 34 (.slice a n cap) none (some (.int .i64 (c : Int))) none).run Tryd.prog w = .ok (.slice a c cap) w := by
  have hu : Tryd.prog.underlying 34 = some (.slice (Tryd.prog.elem 34)) := by kernel_rfl
  have he : Tryd.prog.elem 34 = 3 := by kernel_rfl
  have hs : (sizeOf 3).run Tryd.prog w = .ok 1 w := by kernel_rfl
  rw [run_sliceAt_slice _ _ _ _ _ _ hu, run_slice_h _ _ _ _ _ hu .i64 (c : Int) (by omega) (by omega), he, hs]
  cases a with
  | none => simp [sliced]
  | some x => cases x; simp [sliced, Addr.add]

theorem slice_l13 (b : Nat) (w : World) : (Instr.sliceAt 22 (.pointer (some ⟨b, 0, none⟩)) none none none).run Tryd.prog w = .ok (.slice (some ⟨b, 0, none⟩) 13 13) w := by show Sem.run _ _ _ = _; kernel_rfl

theorem load_B {w : World} {g T : Nat} {n : Ino} {v : Value} (hb : Blk w g (inoC n v) T) (hn : n.B.length = 13) : (loadVar 22 ⟨g, 4, none⟩).run Tryd.prog w = .ok (.agg (zs n.B).toArray) w :=
  load_n13 hb hn fun _ hk => inoC_B v (by omega)

end Go.Proofs.YtmhcnkjmnbnldaaDoor

namespace Go.Proofs.YtmhcnkjmnbnldaaDoor
open Go.RowKit

/-- What rightDir asks ahead of its loop. -/
def DirA (n : Ino) : Prop := n.E.length ≤ 24 ∧ n.S = n.E.length ∧ n.B = List.replicate 13 0

set_option maxRecDepth 100000 in
set_option maxHeartbeats 4000000 in
theorem rightDir_at (n : Ino) (v : Value) (g : Nat) (hB : n.B.length = 13) (w : World) (hE : EReads w v g n.E) (hN : ∀ k, k < n.E.length → (enm n.E k).size ≤ 9223372036854775807) :
    Calls Tryd.prog 45 #[.agg (inoC n v)] w fun e w' => e = .returned (.bool (decide (DirP n))) ∧ Keeps [] w w' := by
  obtain ⟨a, cap, rfl, hcap, hmax, HEC⟩ := hE.open
  have HN := Lib.hid hN
  unfold maxLen at hmax
  obtain ⟨Z, hZ⟩ : ∃ Z, Z = inoC n (.slice a n.E.length cap) := ⟨_, rfl⟩
  have hat : InoAt Z n (.slice a n.E.length cap) := by rw [hZ]; exact inoAt _ hB
  rw [← hZ]
  have hb0 := Blk.new w Z 25
  have c3 : (w.alloc (.cells Z 25)).cell? ⟨w.heap.size, 3, none⟩ = some (.int .i64 n.S) := by rw [hb0.cell]; exact hat.f3
  have c17 : (w.alloc (.cells Z 25)).cell? ⟨w.heap.size, 17, none⟩ = some (.slice a n.E.length cap) := by rw [hb0.cell]; exact hat.f5
  have HK : Hid (Keeps [] w (w.alloc (.cells Z 25))) := (Keeps.refl [] w).alloc _
  have HB0 := Lib.hid hb0
  have HL := Lib.hid (load_n13 (off := 4) hb0 hB hat.f4)
  have HC17 : Hid (∀ wx : World, Blk wx w.heap.size Z 25 → wx.cell? ⟨w.heap.size, 17, none⟩ = some (.slice a n.E.length cap)) := fun wx hb => by rw [hb.cell]; exact hat.f5
  have HEQ := Lib.hid (fun wx => eq_n13 (a := n.B) (b := List.replicate 13 0) hB rfl wx)
  have hg13 := guard_n13
  have hzv := zero_n13
  have HDP : Hid (DirP n ↔ DirA n ∧ ∀ k, k < n.E.length → EntP n.E k) := ⟨fun h => ⟨⟨h.1, h.2.1, h.2.2.1⟩, h.2.2.2⟩, fun h => ⟨h.1.1, h.1.2.1, h.1.2.2, h.2⟩⟩
  clear hb0 hat hZ hB hE hN
  by_cases hlen : 24 < n.E.length
  · have HF : Hid (decide (DirP n) = false) := decide_eq_false fun h => by have := h.1; omega
    clear HDP HN HEC
    generalize n.E.length = m at *
    have h24 : (24 : Int) < (m : Int) := by omega
    go_enter Tryd.func45, Tryd.ntmps45
    go_wp2_with fail
    go_ret
    exact ⟨by rw [HF.out]; rfl, HK.out⟩
  · by_cases hS : n.S = n.E.length
    · obtain ⟨t, ht⟩ : ∃ t, decide (n.B = List.replicate 13 0) = t := ⟨_, rfl⟩
      rw [ht] at HEQ
      have heq := HEQ.out
      rw [hS] at c3
      have h24 : ¬ (24 : Int) < ((n.E.length : Nat) : Int) := by omega
      cases t
      · have HF : Hid (decide (DirP n) = false) := decide_eq_false fun h => of_decide_eq_false ht h.2.2.1
        clear HDP HN HEC ht HEQ HC17
        generalize (zs (List.replicate 13 0)).toArray = Z0 at *
        generalize (zs n.B).toArray = ZB at *
        generalize n.E.length = m at *
        have hsame : ((m : Int) != (m : Int)) = false := by simp
        go_enter Tryd.func45, Tryd.ntmps45
        go_wp2_with ((with_reducible show wpList _ _ _ (⟨_, .load 22 (.tmp 18), _, _, _, _⟩ :: _) _ _); refine wpList_load_want (by simp [Region.wanted, yielded]) 22 (.tmp 18) rfl _ rfl _ HL.out ?_)
        go_ret
        exact ⟨by rw [HF.out]; rfl, HK.out⟩
      · have HA : Hid (DirA n) := ⟨by omega, hS, of_decide_eq_true ht⟩
        clear ht HEQ
        generalize (zs (List.replicate 13 0)).toArray = Z0 at *
        generalize (zs n.B).toArray = ZB at *
        generalize hm : n.E.length = m at *
        go_enter Tryd.func45, Tryd.ntmps45
        go_wp2_with ((with_reducible show wpList _ _ _ (⟨_, .load 22 (.tmp 18), _, _, _, _⟩ :: _) _ _); refine wpList_load_want (by simp [Region.wanted, yielded]) 22 (.tmp 18) rfl _ rfl _ HL.out ?_)
        clear hzv heq HL c3 c17
        go_loopg [26] m (fun gh s26 wx => ∃ k : Nat, k + gh = m ∧ s26 = .int .i64 (k : Int) ∧ Hid ((∀ i, i < k → EntP n.E i) ∧ Keeps [] (w.alloc (.cells Z 25)) wx))
        case atStart => exact ⟨0, by omega, rfl, by simp, Keeps.refl _ _⟩
        case round =>
          obtain ⟨k, hk, rfl, HR⟩ := hrel
          cases gk with
          | zero =>
            obtain rfl : k = m := by omega
            have HT : Hid (decide (DirP n) = true) := decide_eq_true (HDP.out.2 ⟨HA.out, HR.out.1⟩)
            have HKP := Lib.hid (HK.out.trans' HR.out.2)
            clear HR hk HDP HC17 hm
            go_wp2_with fail
            go_ret
            exact ⟨by rw [HT.out]; rfl, HKP.out⟩
          | succ gg =>
            have hkm : k < m := by omega
            have hlt : (k : Int) < (m : Int) := by omega
            have hk0 : (0 : Int) ≤ (k : Int) := by omega
            obtain ⟨hg, off, rfl, e0, e1⟩ := HEC.out k hkm
            have hkw := HK.out.trans' HR.out.2
            have c0 : wr.cell? ⟨g, off + k * 2, none⟩ = some (.string (enm n.E k)) := (World.cell?_of_block (w := w) (a := ⟨g, off + k * 2, none⟩) (hkw.block g hg (by simp))).trans e0
            have c1 : wr.cell? ⟨g, off + k * 2 + 1, none⟩ = some (.int .i64 (eno n.E k)) := (World.cell?_of_block (w := w) (a := ⟨g, off + k * 2 + 1, none⟩) (hkw.block g hg (by simp))).trans e1
            have HG := Lib.hid (fun wx => good_at (enm n.E k) (HN.out k hkm) wx)
            have HEP : Hid (EntP n.E k ↔ goodN (bl (enm n.E k)) = true ∧ (0 ≤ eno n.E k ∧ eno n.E k ≤ 31) ∧ (0 < k → leB (enm n.E k) (enm n.E (k - 1)) = false)) := Iff.rfl
            have HNO : Hid (¬ EntP n.E k → decide (DirP n) = false) := fun h => decide_eq_false fun hd => h ((HDP.out.1 hd).2 k hkm)
            have HKW := Lib.hid hkw
            have HPRE := Lib.hid HR.out.1
            have HKR := Lib.hid HR.out.2
            have c17 := HC17.out wr (HB0.out.keep HR.out.2 (by simp))
            have HPV : Hid (∀ q, k = q + 1 → wr.cell? ⟨g, off + q * 2, none⟩ = some (.string (enm n.E q))) := fun q hq => by
              obtain ⟨-, off', ho', f0, -⟩ := HEC.out q (by omega)
              cases ho'
              exact (World.cell?_of_block (w := w) (a := ⟨g, off + q * 2, none⟩) (hkw.block g hg (by simp))).trans f0
            clear hkw e0 e1 HEC HDP HR HC17
            generalize hnm : enm n.E k = nm at *
            generalize eno n.E k = ino at *
            cases hgd : goodN (bl nm)
            · have HF : Hid (decide (DirP n) = false) := HNO.out fun h => by have := (HEP.out.1 h).1; rw [hgd] at this; cases this
              rw [hgd] at HG
              clear HEP HNO hgd hk HPV hm
              go_wp2_with fail
              refine (HG.out _).mono ?_; rintro e w' ⟨rfl, rfl⟩
              go_wp2_with fail
              go_ret
              exact ⟨by rw [HF.out]; rfl, HKW.out.alloc _⟩
            · rw [hgd] at HG
              by_cases hi0 : ino < 0
              · have HF : Hid (decide (DirP n) = false) := HNO.out fun h => by have := (HEP.out.1 h).2.1.1; omega
                clear HEP HNO hgd hk HPV hm
                go_wp2_with fail
                refine (HG.out _).mono ?_; rintro e w' ⟨rfl, rfl⟩
                go_wp2_with fail
                go_ret
                exact ⟨by rw [HF.out]; rfl, HKW.out.alloc _⟩
              · by_cases hi1 : 32 ≤ ino
                · have HF : Hid (decide (DirP n) = false) := HNO.out fun h => by have := (HEP.out.1 h).2.1.2; omega
                  clear HEP HNO hgd hk HPV hm
                  go_wp2_with fail
                  refine (HG.out _).mono ?_; rintro e w' ⟨rfl, rfl⟩
                  go_wp2_with fail
                  go_ret
                  exact ⟨by rw [HF.out]; rfl, HKW.out.alloc _⟩
                · by_cases hkz : k = 0
                  · have HPN : Hid (∀ i, i < k + 1 → EntP n.E i) := fun i hi => by
                      obtain rfl : i = k := by omega
                      exact HEP.out.2 ⟨hgd, ⟨by omega, by omega⟩, fun h => absurd h (by omega)⟩
                    have hkn : ¬ (0 : Int) < (k : Int) := by omega
                    have hkd : decide (0 < k) = false := decide_eq_false (by omega)
                    clear HEP HNO hgd HPV hm HPRE hkz
                    go_wp2_with fail
                    refine (HG.out _).mono ?_; rintro e w' ⟨rfl, rfl⟩
                    go_wp2_with fail
                    go_quiet (fail)
                    go_wp2_with fail
                    go_roundg gg
                    case measure => omega
                    case rel => exact ⟨k + 1, by omega, by go_num, HPN.out, (HKR.out.alloc _).drewN _⟩
                  · obtain ⟨q, hq⟩ : ∃ q, k = q + 1 := ⟨k - 1, by omega⟩
                    have hpv0 := HPV.out q hq
                    have hpv : ∀ o, (wr.alloc o).cell? ⟨g, off + q * 2, none⟩ = some (.string (enm n.E q)) := fun o => by
                      rw [World.cell?_alloc_some _ _ _ (by rw [hpv0]; rfl)]
                      exact hpv0
                    have c17a : ∀ o, (wr.alloc o).cell? ⟨w.heap.size, 17, none⟩ = some (.slice (some ⟨g, off, none⟩) m cap) := fun o => by
                      rw [World.cell?_alloc_some _ _ _ (by rw [c17]; rfl)]
                      exact c17
                    clear hpv0
                    have hkp : (0 : Int) < (k : Int) := by omega
                    have hkd : decide (0 < k) = true := decide_eq_true (by omega)
                    have hkq : (k : Int) - 1 = (q : Int) := by omega
                    have hqm : (q : Int) < (m : Int) := by omega
                    have hq0 : (0 : Int) ≤ (q : Int) := by omega
                    have hlb : ∀ b, leB nm (enm n.E q) = b → (Op.bytesLess nm.toList (enm n.E q).toList || (nm.toList == (enm n.E q).toList)) = b := fun b h => h
                    have HEP2 : Hid (EntP n.E k ↔ leB nm (enm n.E q) = false) := by
                      show _ ↔ _
                      rw [HEP.out, show k - 1 = q by omega]
                      exact ⟨fun h => h.2.2 (by omega), fun h => ⟨hgd, ⟨by omega, by omega⟩, fun _ => h⟩⟩
                    generalize enm n.E q = pm at *
                    cases hle : leB nm pm
                    · have HPN : Hid (∀ i, i < k + 1 → EntP n.E i) := fun i hi => by
                        by_cases e : i = k
                        · subst e; exact HEP2.out.2 hle
                        · exact HPRE.out i (by omega)
                      have hlb2 := hlb _ hle
                      clear HEP HEP2 HNO hgd HPV hm HPRE hkz hlb hle hq
                      go_wp2_with fail
                      refine (HG.out _).mono ?_; rintro e w' ⟨rfl, rfl⟩
                      go_wp2_with fail
                      go_quiet (fail)
                      go_wp2_with fail
                      go_roundg gg
                      case measure => omega
                      case rel => exact ⟨k + 1, by omega, by go_num, HPN.out, (HKR.out.alloc _).drewN _⟩
                    · have HF : Hid (decide (DirP n) = false) := HNO.out fun h => by
                        have := HEP2.out.1 h
                        rw [hle] at this
                        cases this
                      have hlb2 := hlb _ hle
                      clear HEP HEP2 HNO hgd HPV hm HPRE hkz hlb hle hq hk
                      go_wp2_with fail
                      refine (HG.out _).mono ?_; rintro e w' ⟨rfl, rfl⟩
                      go_wp2_with fail
                      go_quiet (fail)
                      go_wp2_with fail
                      go_ret
                      exact ⟨by rw [HF.out]; rfl, (HKW.out.alloc _).drewN _⟩
    · have HF : Hid (decide (DirP n) = false) := decide_eq_false fun h => hS h.2.1
      have e2 : (n.S != ((n.E.length : Nat) : Int)) = true := bne_iff_ne.2 hS
      have h24 : ¬ (24 : Int) < ((n.E.length : Nat) : Int) := by omega
      clear HDP HN HEC
      generalize n.S = s at *
      generalize n.E.length = m at *
      go_enter Tryd.func45, Tryd.ntmps45
      go_wp2_with fail
      go_ret
      exact ⟨by rw [HF.out]; rfl, HK.out⟩

end Go.Proofs.YtmhcnkjmnbnldaaDoor

namespace Go.Proofs.YtmhcnkjmnbnldaaDoor
open Go.RowKit

set_option maxRecDepth 100000 in
set_option maxHeartbeats 4000000 in
theorem right_at (n : Ino) (v : Value) (g : Nat) (hB : n.B.length = 13) (w : World) (hE : EReads w v g n.E) (hN : ∀ k, k < n.E.length → (enm n.E k).size ≤ 9223372036854775807) :
    Calls Tryd.prog 14 #[.agg (inoC n v)] w fun e w' => e = .returned (.bool (decide (RightP n))) ∧ Keeps [] w w' := by
  have HRF : Hid (∀ wx, Calls Tryd.prog 44 #[.agg (inoC n v)] wx fun e w' => e = .returned (.bool (decide (FileP n))) ∧ Keeps [] wx w') := fun wx => by
    obtain ⟨a, cap, hv, -⟩ := hE
    subst hv
    exact rightFile_at n a cap hB wx
  have HRD : Hid (∀ wx, Keeps [] w wx → Calls Tryd.prog 45 #[.agg (inoC n v)] wx fun e w' => e = .returned (.bool (decide (DirP n))) ∧ Keeps [] wx w') := fun wx hk =>
    rightDir_at n v g hB wx (hE.keep hk (by simp)) hN
  obtain ⟨Z, hZ⟩ : ∃ Z, Z = inoC n v := ⟨_, rfl⟩
  have hat : InoAt Z n v := by rw [hZ]; exact inoAt _ hB
  rw [← hZ] at HRF HRD ⊢
  have hb0 := Blk.new w Z 25
  have c0 : (w.alloc (.cells Z 25)).cell? ⟨w.heap.size, 0, none⟩ = some (.int .i64 n.F) := by rw [hb0.cell]; exact hat.f0
  have c1 : (w.alloc (.cells Z 25)).cell? ⟨w.heap.size, 1, none⟩ = some (.int .i64 n.K) := by rw [hb0.cell]; exact hat.f1
  have c2 : (w.alloc (.cells Z 25)).cell? ⟨w.heap.size, 2, none⟩ = some (.int .i64 n.L) := by rw [hb0.cell]; exact hat.f2
  have HK : Hid (Keeps [] w (w.alloc (.cells Z 25))) := (Keeps.refl [] w).alloc _
  have HL : Hid ((loadVar 25 ⟨w.heap.size, 0, none⟩).run Tryd.prog (w.alloc (.cells Z 25)) = .ok (.agg Z) (w.alloc (.cells Z 25))) := by
    have := load_ino (n := n) (v := v) (by rw [← hZ]; exact hb0) hB
    rw [← hZ] at this
    exact this
  clear hb0 hat hZ hE hN hB
  by_cases hF : n.F = 1 ∨ n.F = 2
  · rcases hF with hF | hF
    all_goals
      rw [hF] at c0
      by_cases hL0 : n.L < 0
      · have HF : Hid (decide (RightP n) = false) := decide_eq_false fun h => by have := h.2.1.1; omega
        generalize n.L = l at *
        go_enter Tryd.func14, Tryd.ntmps14
        go_wp2_with fail
        go_ret
        exact ⟨by rw [HF.out]; rfl, HK.out⟩
      · by_cases hL1 : 65535 < n.L
        · have HF : Hid (decide (RightP n) = false) := decide_eq_false fun h => by have := h.2.1.2; omega
          generalize n.L = l at *
          go_enter Tryd.func14, Tryd.ntmps14
          go_wp2_with fail
          go_ret
          exact ⟨by rw [HF.out]; rfl, HK.out⟩
        · by_cases hK1 : n.K = 1
          · have HQ : Hid (decide (RightP n) = decide (FileP n)) := decide_eq_decide.2 ⟨fun h => by
              rcases h.2.2 with h | h
              · exact h.2
              · omega, fun h => ⟨by omega, ⟨by omega, by omega⟩, .inl ⟨hK1, h⟩⟩⟩
            rw [hK1] at c1
            generalize decide (FileP n) = q at *
            generalize n.L = l at *
            go_enter Tryd.func14, Tryd.ntmps14
            go_wp2_with ((with_reducible show wpList _ _ _ (⟨_, .load 25 (.tmp 1), _, _, _, _⟩ :: _) _ _); refine wpList_load_any rfl 25 (.tmp 1) rfl _ rfl _ HL.out ?_)
            refine (HRF.out _).mono ?_; rintro e w1 ⟨rfl, hk1⟩
            have HK1 := Lib.hid (HK.out.trans' hk1)
            clear hk1
            go_wp2_with fail
            go_ret
            exact ⟨by rw [HQ.out]; rfl, HK1.out⟩
          · by_cases hK2 : n.K = 2
            · have HQ : Hid (decide (RightP n) = decide (DirP n)) := decide_eq_decide.2 ⟨fun h => by
                rcases h.2.2 with h | h
                · omega
                · exact h.2, fun h => ⟨by omega, ⟨by omega, by omega⟩, .inr ⟨hK2, h⟩⟩⟩
              rw [hK2] at c1
              generalize decide (DirP n) = q at *
              generalize n.L = l at *
              go_enter Tryd.func14, Tryd.ntmps14
              go_wp2_with ((with_reducible show wpList _ _ _ (⟨_, .load 25 (.tmp 1), _, _, _, _⟩ :: _) _ _); refine wpList_load_any rfl 25 (.tmp 1) rfl _ rfl _ HL.out ?_)
              refine (HRD.out _ HK.out).mono ?_; rintro e w1 ⟨rfl, hk1⟩
              have HK1 := Lib.hid (HK.out.trans' hk1)
              clear hk1
              go_wp2_with fail
              go_ret
              exact ⟨by rw [HQ.out]; rfl, HK1.out⟩
            · have HF : Hid (decide (RightP n) = false) := decide_eq_false fun h => by
                rcases h.2.2 with h | h
                · exact hK1 h.1
                · exact hK2 h.1
              have k1 : (n.K == 1) = false := beq_eq_false_iff_ne.2 hK1
              have k2 : (n.K == 2) = false := beq_eq_false_iff_ne.2 hK2
              generalize n.L = l at *
              generalize n.K = kk at *
              go_enter Tryd.func14, Tryd.ntmps14
              go_wp2_with fail
              go_ret
              exact ⟨by rw [HF.out]; rfl, HK.out⟩
  · have HF : Hid (decide (RightP n) = false) := decide_eq_false fun h => hF h.1
    have f1 : (n.F != 1) = true := bne_iff_ne.2 fun h => hF (.inl h)
    have f2 : (n.F != 2) = true := bne_iff_ne.2 fun h => hF (.inr h)
    clear hF
    generalize n.F = f at *
    go_enter Tryd.func14, Tryd.ntmps14
    go_wp2_with fail
    go_ret
    exact ⟨by rw [HF.out]; rfl, HK.out⟩

end Go.Proofs.YtmhcnkjmnbnldaaDoor

namespace Go.Proofs.YtmhcnkjmnbnldaaDoor
open Go.RowKit

/-- It can be laid. -/
def LayP (i : Int) (n : Ino) : Prop := (0 ≤ i ∧ i < 32) ∧ n.F = 1 ∧ RightP n

instance (i : Int) (n : Ino) : Decidable (LayP i n) := by unfold LayP; infer_instance

set_option maxRecDepth 100000 in
set_option maxHeartbeats 4000000 in
theorem lay_arg {w : World} {p : Value} (i : Int) (n : Ino) (v : Value) (g : Nat) (hB : n.B.length = 13) (hE : EReads w v g n.E) (hN : ∀ k, k < n.E.length → (enm n.E k).size ≤ 9223372036854775807) (hno : ¬ LayP i n) :
    Calls Tryd.prog 11 #[p, .int .i64 i, .agg (inoC n v)] w fun e w' => e = .returned (.int .i64 1) ∧ Keeps [] w w' := by
  have HRT : Hid (∀ wx, Keeps [] w wx → Calls Tryd.prog 14 #[.agg (inoC n v)] wx fun e w' => e = .returned (.bool (decide (RightP n))) ∧ Keeps [] wx w') := fun wx hk => right_at n v g hB wx (hE.keep hk (by simp)) hN
  have hat := inoAt v hB
  have hb0 := Blk.new w (inoC n v) 25
  have HL := Lib.hid (load_ino hb0 hB)
  have HI := Lib.hid (txInode_at i)
  generalize inoC n v = Z at *
  have c0 : (w.alloc (.cells Z 25)).cell? ⟨w.heap.size, 0, none⟩ = some (.int .i64 n.F) := by rw [hb0.cell]; exact hat.f0
  have HK : Hid (Keeps [] w (w.alloc (.cells Z 25))) := (Keeps.refl [] w).alloc _
  have HNO := Lib.hid hno
  clear hb0 hat hE hN hB hno
  by_cases hi : i < 0 ∨ 32 ≤ i
  · have hin : inodeN i = -1 := by unfold inodeN; rw [if_pos hi]
    rw [hin] at HI
    clear hin
    go_enter Tryd.func11, Tryd.ntmps11
    go_wp2_with fail
    refine (HI.out _).mono ?_; rintro e w' ⟨rfl, rfl⟩
    go_wp2_with fail
    go_ret
    exact ⟨rfl, HK.out⟩
  · have hin : inodeN i = ((824 + 8 * i.toNat : Nat) : Int) := by unfold inodeN; rw [if_neg hi]; omega
    rw [hin] at HI
    have hp0 : (0 : Int) ≤ ((824 + 8 * i.toNat : Nat) : Int) := by omega
    generalize ((824 + 8 * i.toNat : Nat) : Int) = q at *
    clear hin
    by_cases hF : n.F = 1
    · have HQ : Hid (decide (RightP n) = false) := decide_eq_false fun h => HNO.out ⟨by omega, hF, h⟩
      rw [hF] at c0
      rw [HQ.out] at HRT
      go_enter Tryd.func11, Tryd.ntmps11
      go_wp2_with fail
      refine (HI.out _).mono ?_; rintro e w' ⟨rfl, rfl⟩
      go_wp2_with ((with_reducible show wpList _ _ _ (⟨_, .load 25 (.tmp 5), _, _, _, _⟩ :: _) _ _); refine wpList_load_want (by simp [Region.wanted, yielded, hp0]) 25 (.tmp 5) rfl _ rfl _ HL.out ?_)
      refine (HRT.out _ HK.out).mono ?_; rintro e w1 ⟨rfl, hk1⟩
      have HK1 := Lib.hid (HK.out.trans' hk1)
      clear hk1
      go_wp2_with fail
      go_ret
      exact ⟨rfl, HK1.out⟩
    · have hF' : (n.F != 1) = true := bne_iff_ne.2 hF
      generalize n.F = f at *
      go_enter Tryd.func11, Tryd.ntmps11
      go_wp2_with fail
      refine (HI.out _).mono ?_; rintro e w' ⟨rfl, rfl⟩
      go_wp2_with fail
      go_ret
      exact ⟨rfl, HK.out⟩

set_option maxRecDepth 100000 in
set_option maxHeartbeats 4000000 in
theorem lay_space {w : World} {b gp : Nat} {B : List Int} {ps : List (Int × Int)} (h : ShAt w b gp B ps) (h64 : In64 (putAll B ps)) (i : Int) (n : Ino) (v : Value) (g : Nat) (hB : n.B.length = 13) (hE : EReads w v g n.E) (hN : ∀ k, k < n.E.length → (enm n.E k).size ≤ 9223372036854775807)
    (hok : LayP i n) (hfew : (freeL (putAll B ps)).length < needN n) :
    Calls Tryd.prog 11 #[.pointer (some ⟨b, 0, none⟩), .int .i64 i, .agg (inoC n v)] w fun e w' => e = .returned (.int .i64 7) ∧ Keeps [] w w' := by
  have HRT : Hid (∀ wx, Keeps [] w wx → Calls Tryd.prog 14 #[.agg (inoC n v)] wx fun e w' => e = .returned (.bool true) ∧ Keeps [] wx w') := fun wx hk => by
    have := right_at n v g hB wx (hE.keep hk (by simp)) hN
    rwa [decide_eq_true hok.2.2] at this
  have hl24 := (blocks_le hok.2.2).1
  have HNEED : Hid (∀ wx, Calls Tryd.prog 33 #[.agg (inoC n v)] wx fun e w' => e = .returned (.int .i64 ((needN n : Nat) : Int)) ∧ Keeps [] wx w') := fun wx => by
    obtain ⟨a, cap, rfl, -⟩ := hE
    exact need_at n a cap hB (by omega) wx
  have HTK : Hid (∀ wx, Keeps [] w wx → Calls Tryd.prog 32 #[.pointer (some ⟨b, 0, none⟩), .int .i64 ((needN n : Nat) : Int)] wx fun e w' => e = .returned (.tuple #[.slice none 0 0, .int .i64 7]) ∧ wx = w') := fun wx hk =>
    paTake_less (h.keep hk (by simp) (by simp)) h64 (needN n) hfew
  have hat := inoAt v hB
  have hb0 := Blk.new w (inoC n v) 25
  have HL : Hid (∀ wx, Keeps [] (w.alloc (.cells (inoC n v) 25)) wx → (loadVar 25 ⟨w.heap.size, 0, none⟩).run Tryd.prog wx = .ok (.agg (inoC n v)) wx) := fun wx hk => load_ino (hb0.keep hk (by simp)) hB
  have HI := Lib.hid (txInode_at i)
  generalize inoC n v = Z at *
  have c0 : (w.alloc (.cells Z 25)).cell? ⟨w.heap.size, 0, none⟩ = some (.int .i64 1) := by rw [hb0.cell, ← hok.2.1]; exact hat.f0
  have HK : Hid (Keeps [] w (w.alloc (.cells Z 25))) := (Keeps.refl [] w).alloc _
  have hin : inodeN i = ((824 + 8 * i.toNat : Nat) : Int) := by unfold inodeN; rw [if_neg (by have := hok.1; omega)]; have := hok.1; omega
  rw [hin] at HI
  have hp0 : (0 : Int) ≤ ((824 + 8 * i.toNat : Nat) : Int) := by omega
  generalize ((824 + 8 * i.toNat : Nat) : Int) = q at *
  clear hb0 hat hE hN hB hin hok h h64 hfew
  have HL0 := Lib.hid (HL.out _ (Keeps.refl [] _))
  generalize ((needN n : Nat) : Int) = nn at *
  go_enter Tryd.func11, Tryd.ntmps11
  go_wp2_with fail
  refine (HI.out _).mono ?_; rintro e w' ⟨rfl, rfl⟩
  go_wp2_with ((with_reducible show wpList _ _ _ (⟨_, .load 25 (.tmp 5), _, _, _, _⟩ :: _) _ _); refine wpList_load_want (by simp [Region.wanted, yielded, hp0]) 25 (.tmp 5) rfl _ rfl _ HL0.out ?_)
  refine (HRT.out _ HK.out).mono ?_; rintro e w1 ⟨rfl, hk1⟩
  have HK1 := Lib.hid (HK.out.trans' hk1)
  have HL1 := Lib.hid (HL.out _ hk1)
  clear hk1
  go_wp2_with ((with_reducible show wpList _ _ _ (⟨_, .load 25 (.tmp 5), _, _, _, _⟩ :: _) _ _); refine wpList_load_any rfl 25 (.tmp 5) rfl _ rfl _ HL1.out ?_)
  refine (HNEED.out _).mono ?_; rintro e w2 ⟨rfl, hk2⟩
  have HK2 := Lib.hid (HK1.out.trans' hk2)
  clear hk2
  go_wp2_with fail
  refine (HTK.out _ HK2.out).mono ?_; rintro e w3 ⟨rfl, rfl⟩
  go_wp2_with fail
  go_ret
  exact ⟨rfl, HK2.out⟩

end Go.Proofs.YtmhcnkjmnbnldaaDoor

namespace Go.Proofs.YtmhcnkjmnbnldaaDoor
open Go.RowKit

/-- The words under the laws' sheet, as they are laid: p words of the bits, ones up to q. -/
def laidX (ws : List Nat) (p q : Nat) : List Int := (List.range 3128).map fun j => if 816 ≤ j ∧ j < 816 + p then ((ws.getD (j - 816) 0 : Nat) : Int) else if 1080 ≤ j ∧ j < q then 1 else 0

theorem laidX_len (ws : List Nat) (p q : Nat) : (laidX ws p q).length = 3128 := by simp [laidX]

theorem laidX_get (ws : List Nat) (p q j : Nat) (hj : j < 3128) : (laidX ws p q).getD j 0 = if 816 ≤ j ∧ j < 816 + p then ((ws.getD (j - 816) 0 : Nat) : Int) else if 1080 ≤ j ∧ j < q then 1 else 0 := by
  rw [laidX, List.getD_eq_getElem?_getD, List.getElem?_map, List.getElem?_range hj]
  rfl

theorem ext_getD {l m : List Int} (hl : l.length = 3128) (hm : m.length = 3128) (h : ∀ j, j < 3128 → l.getD j 0 = m.getD j 0) : l = m := by
  apply List.ext_getElem (by rw [hl, hm])
  intro j h1 h2
  have := h j (by omega)
  simpa [List.getD_eq_getElem?_getD, h1, h2] using this

def zerosM : List Int := List.replicate 3128 0

theorem laidX_zero (ws : List Nat) : zerosM = laidX ws 0 1080 := by
  refine ext_getD List.length_replicate (laidX_len _ _ _) fun j hj => ?_
  rw [laidX_get _ _ _ _ hj, if_neg (by omega), if_neg (by omega), zerosM, List.getD_eq_getElem?_getD, List.getElem?_replicate, if_pos hj]
  rfl

theorem laidX_word (ws : List Nat) (p : Nat) (hp : p < 4) : (laidX ws p 1080).set (816 + p) ((ws.getD p 0 : Nat) : Int) = laidX ws (p + 1) 1080 := by
  refine ext_getD (by rw [List.length_set, laidX_len]) (laidX_len _ _ _) fun j hj => ?_
  rw [getD_setI _ _ _ _ (by rw [laidX_len]; omega), laidX_get _ _ _ _ hj, laidX_get _ _ _ _ hj]
  by_cases e : 816 + p = j
  · subst e
    rw [if_pos rfl, if_pos (by omega), Nat.add_sub_cancel_left]
  · rw [if_neg e]
    by_cases e2 : 816 ≤ j ∧ j < 816 + p
    · rw [if_pos e2, if_pos (by omega)]
    · rw [if_neg e2, if_neg (by omega), if_neg (by omega)]

theorem laidX_one (ws : List Nat) (q : Nat) (h0 : 1080 ≤ q) (hq : q < 3128) : (laidX ws 4 q).set q 1 = laidX ws 4 (q + 1) := by
  refine ext_getD (by rw [List.length_set, laidX_len]) (laidX_len _ _ _) fun j hj => ?_
  rw [getD_setI _ _ _ _ (by rw [laidX_len]; omega), laidX_get _ _ _ _ hj, laidX_get _ _ _ _ hj]
  by_cases e : q = j
  · subst e
    rw [if_pos rfl, if_neg (by omega), if_pos (by omega)]
  · rw [if_neg e]
    by_cases e2 : 816 ≤ j ∧ j < 816 + 4
    · rw [if_pos e2, if_pos e2]
    · rw [if_neg e2, if_neg e2]
      by_cases e3 : 1080 ≤ j ∧ j < q
      · rw [if_pos e3, if_pos (by omega)]
      · rw [if_neg e3, if_neg (by omega)]

/-- The words under the laws' sheet. -/
def sheetW (ws : List Nat) : List Int := laidX ws 4 3128

theorem sheetW_pad (ws : List Nat) : padW (sheetW ws) = sheetW ws := by
  unfold padW sheetW
  rw [laidX_len, List.take_of_length_le (by rw [laidX_len]; omega), Nat.sub_self, List.replicate_zero, List.append_nil]

theorem sheetW_64 (ws : List Nat) (h : ∀ i, ws.getD i 0 < 18446744073709551616) : In64 (sheetW ws) := by
  intro j
  by_cases hj : j < 3128
  · unfold sheetW
    rw [laidX_get _ _ _ _ hj]
    split
    · have := h (j - 816); omega
    · split <;> omega
  · rw [List.getD_eq_getElem?_getD, List.getElem?_eq_none (by rw [sheetW, laidX_len]; omega)]
    simp

theorem sheetW_bits (ws : List Nat) (k : Nat) (hk : k < 4) : bw (sheetW ws) k = ws.getD k 0 := by
  unfold bw sheetW
  rw [laidX_get _ _ _ _ (by omega), if_pos (by omega), Nat.add_sub_cancel_left, Int.toNat_natCast]

theorem owns_wordsM (w : World) (n : Nat) (hn : n ≤ 100000) : Owns (w.alloc (.cells (madeCells #[.int .u64 0] n) 30)) (.slice (some ⟨w.heap.size, 0, none⟩) n n) w.heap.size 30 1 n (u64s (List.replicate n 0)) := by
  refine ⟨by simp [u64s], _, n, rfl, Nat.le_refl _, by unfold maxLen; omega, fun _ => ⟨rfl, _, Blk.new _ _ _, by simp [size_madeCells], ?_⟩⟩
  rw [toList_madeCells_one, u64s_zero, List.take_of_length_le (by simp [u64s])]

theorem make_zeroW (w : World) : ∃ mc, (Instr.makeSlice 44 (.int .i64 3128) (.int .i64 3128)).run Tryd.prog w = .ok (.slice (some ⟨w.heap.size, 0, none⟩) 3128 3128) (w.alloc (.cells mc 30)) ∧
    Owns (w.alloc (.cells mc 30)) (.slice (some ⟨w.heap.size, 0, none⟩) 3128 3128) w.heap.size 30 1 3128 (u64s zerosM) :=
  ⟨_, make_u64 3128 (by omega) 3128 rfl 3128 (.inr rfl) w, owns_wordsM w 3128 (by omega)⟩

/-- Four words, as an array has them. -/
def w4 (ws : List Nat) : Array Value := #[.int .u64 ((ws.getD 0 0 : Nat) : Int), .int .u64 ((ws.getD 1 0 : Nat) : Int), .int .u64 ((ws.getD 2 0 : Nat) : Int), .int .u64 ((ws.getD 3 0 : Nat) : Int)]

theorem w4_get (ws : List Nat) (k : Nat) (hk : k < 4) : (w4 ws)[k]? = some (.int .u64 ((ws.getD k 0 : Nat) : Int)) := by
  rcases (show k = 0 ∨ k = 1 ∨ k = 2 ∨ k = 3 by omega) with rfl | rfl | rfl | rfl <;> rfl

end Go.Proofs.YtmhcnkjmnbnldaaDoor

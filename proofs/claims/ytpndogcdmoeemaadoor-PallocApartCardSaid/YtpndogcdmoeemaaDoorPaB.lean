/-
  Layer 5 (palloc): Set, freeIn.
-/
import Derived.Test.YtpndogcdmoeemaaDoorPaA
namespace Go.Proofs.YtpndogcdmoeemaaDoor
open Go.RowKit

theorem setW_mskN (x b : Nat) : setW x (b % 64) false = x &&& (18446744073709551615 - mskN b) ∧ setW x (b % 64) true = (x &&& (18446744073709551615 - mskN b)) ||| mskN b := ⟨rfl, rfl⟩

set_option maxHeartbeats 2000000 in
theorem paSet_at {w : World} {b gp : Nat} {B : List Int} {ps : List (Int × Int)} (h : ShAt w b gp B ps) (h64 : In64 (putAll B ps)) (hn : ps.length ≤ 1000000) (i : Int) (u : Bool) :
    Calls Tryd.prog 11 #[.pointer (some ⟨b, 0, none⟩), .int .i64 i, .bool u] w (PutPost w b gp B (ps ++ setPs (putAll B ps) i.toNat u)) := by
  have HI := Lib.hid (paIsBlock_at i w)
  by_cases hz : i = 0
  · subst hz
    have HM : Hid (PutPost w b gp B (ps ++ setPs (putAll B ps) (0 : Int).toNat u) (.returned (.tuple #[])) w) := by
      show PutPost _ _ _ _ _ _ _
      rw [show setPs (putAll B ps) (0 : Int).toNat u = [] by simp [setPs], List.append_nil]
      exact ⟨rfl, gp, .inl rfl, h, Keeps.refl _ _⟩
    clear h
    go_enter Tryd.func11, Tryd.ntmps11
    go_wp2_with fail
    go_end0
    exact HM.out
  have e0 : (i == 0) = false := by simpa using hz
  cases hi : isBl i
  · rw [hi] at HI
    have HM : Hid (PutPost w b gp B (ps ++ setPs (putAll B ps) i.toNat u) (.returned (.tuple #[])) w) := by
      show PutPost _ _ _ _ _ _ _
      have : ¬ (0 ≤ i ∧ i < 256) := fun e => by rw [isBl_iff.2 e] at hi; cases hi
      rw [show setPs (putAll B ps) i.toNat u = [] by unfold setPs; rw [if_pos (by omega)], List.append_nil]
      exact ⟨rfl, gp, .inl rfl, h, Keeps.refl _ _⟩
    clear hi h hz
    go_enter Tryd.func11, Tryd.ntmps11
    go_wp2_with fail
    refine HI.out.mono ?_; rintro e w' ⟨rfl, rfl⟩
    go_wp2_with fail
    go_end0
    exact HM.out
  · rw [hi] at HI
    obtain ⟨h0, h1⟩ := isBl_iff.1 hi
    clear hi
    obtain ⟨j, rfl⟩ := Int.eq_ofNat_of_zero_le h0
    have hj : j < 256 := by omega
    have hj0 : ¬ (j = 0 ∨ 256 ≤ j) := by omega
    clear hz
    have HB := Lib.hid (paBitsOf_at j hj w)
    have HM := Lib.hid (paMaskOf_at j hj w)
    have HG := Lib.hid (txGet_at h ((816 + j / 64 : Nat) : Int))
    rw [getN_bits h64 (j / 64) (by omega)] at HG
    have hx := bw_lt h64 (j / 64)
    have hm := mskN_lt j
    have ha := u64_andNot_nat (bw (putAll B ps) (j / 64)) (mskN j) hx hm
    have hy : bw (putAll B ps) (j / 64) &&& (18446744073709551615 - mskN j) < 18446744073709551616 := Nat.lt_of_le_of_lt Nat.and_le_left hx
    have hin : inB ((816 + j / 64 : Nat) : Int) = true := inB_iff.2 ⟨by omega, by omega⟩
    obtain ⟨s0, s1⟩ := setW_mskN (bw (putAll B ps) (j / 64)) j
    cases u
    · have HP : Hid (Calls Tryd.prog 22 #[.pointer (some ⟨b, 0, none⟩), .int .i64 ((816 + j / 64 : Nat) : Int), .int .u64 ((bw (putAll B ps) (j / 64) &&& (18446744073709551615 - mskN j) : Nat) : Int)] w (PutPost w b gp B (ps ++ setPs (putAll B ps) (j : Int).toNat false))) := by
        have := txPut_at h hn ((816 + j / 64 : Nat) : Int) ((bw (putAll B ps) (j / 64) &&& (18446744073709551615 - mskN j) : Nat) : Int)
        unfold putN at this
        rw [if_pos hin] at this
        unfold setPs
        rw [Int.toNat_natCast, if_neg hj0, s0]
        exact this
      clear h h64 hn hx hm hin s0 s1 hj0 hy
      generalize ps ++ setPs (putAll B ps) (j : Int).toNat false = qs at *
      generalize bw (putAll B ps) (j / 64) &&& (18446744073709551615 - mskN j) = y at *
      generalize bw (putAll B ps) (j / 64) = x at *
      generalize mskN j = m at *
      go_enter Tryd.func11, Tryd.ntmps11
      go_wp2_with fail
      refine HI.out.mono ?_; rintro e w' ⟨rfl, rfl⟩
      go_wp2_with fail
      refine HB.out.mono ?_; rintro e w' ⟨rfl, rfl⟩
      go_wp2_with fail
      refine HG.out.mono ?_; rintro e w' ⟨rfl, rfl⟩
      go_wp2_with fail
      refine HM.out.mono ?_; rintro e w' ⟨rfl, rfl⟩
      go_wp2_with fail
      refine HB.out.mono ?_; rintro e w' ⟨rfl, rfl⟩
      go_wp2_with fail
      refine HP.out.mono ?_; rintro e w' hp
      have HQ := Lib.hid hp
      obtain ⟨rfl, -⟩ := hp
      go_wp2_with fail
      go_end0
      exact HQ.out
    · have ho := u64_or_nat (bw (putAll B ps) (j / 64) &&& (18446744073709551615 - mskN j)) (mskN j) hy hm
      have HP : Hid (Calls Tryd.prog 22 #[.pointer (some ⟨b, 0, none⟩), .int .i64 ((816 + j / 64 : Nat) : Int), .int .u64 (((bw (putAll B ps) (j / 64) &&& (18446744073709551615 - mskN j)) ||| mskN j : Nat) : Int)] w (PutPost w b gp B (ps ++ setPs (putAll B ps) (j : Int).toNat true))) := by
        have := txPut_at h hn ((816 + j / 64 : Nat) : Int) (((bw (putAll B ps) (j / 64) &&& (18446744073709551615 - mskN j)) ||| mskN j : Nat) : Int)
        unfold putN at this
        rw [if_pos hin] at this
        unfold setPs
        rw [Int.toNat_natCast, if_neg hj0, s1]
        exact this
      clear h h64 hn hx hm hin s0 s1 hj0 hy
      generalize ps ++ setPs (putAll B ps) (j : Int).toNat true = qs at *
      generalize (bw (putAll B ps) (j / 64) &&& (18446744073709551615 - mskN j)) ||| mskN j = z at *
      generalize bw (putAll B ps) (j / 64) &&& (18446744073709551615 - mskN j) = y at *
      generalize bw (putAll B ps) (j / 64) = x at *
      generalize mskN j = m at *
      go_enter Tryd.func11, Tryd.ntmps11
      go_wp2_with fail
      refine HI.out.mono ?_; rintro e w' ⟨rfl, rfl⟩
      go_wp2_with fail
      refine HB.out.mono ?_; rintro e w' ⟨rfl, rfl⟩
      go_wp2_with fail
      refine HG.out.mono ?_; rintro e w' ⟨rfl, rfl⟩
      go_wp2_with fail
      refine HM.out.mono ?_; rintro e w' ⟨rfl, rfl⟩
      go_wp2_with fail
      refine HM.out.mono ?_; rintro e w' ⟨rfl, rfl⟩
      go_wp2_with fail
      refine HB.out.mono ?_; rintro e w' ⟨rfl, rfl⟩
      go_wp2_with fail
      refine HP.out.mono ?_; rintro e w' hp
      have HQ := Lib.hid hp
      obtain ⟨rfl, -⟩ := hp
      go_wp2_with fail
      go_end0
      exact HQ.out

theorem xor_all (x : Nat) (hx : x < 18446744073709551616) : 18446744073709551615 ^^^ x = 18446744073709551615 - x := by
  apply Nat.eq_of_testBit_eq
  intro j
  rw [Nat.testBit_xor, testBit_not x j hx, show (18446744073709551615 : Nat) = 2 ^ 64 - 1 from rfl, Nat.testBit_two_pow_sub_one]
  by_cases h : j < 64
  · simp [h]
  · have : x.testBit j = false := by
      apply Nat.testBit_lt_two_pow
      exact Nat.lt_of_lt_of_le hx (Nat.pow_le_pow_right (n := 2) (i := 64) (by decide) (by omega))
    simp [h, this]

theorem xor_int (x : Nat) (hx : x < 18446744073709551616) : bits .xor .u64 IntKind.u64.max (x : Int) = ((18446744073709551615 - x : Nat) : Int) := by
  rw [← xor_all x hx]
  exact u64_xor_nat 18446744073709551615 x (by decide) hx

set_option maxHeartbeats 1000000 in
theorem paFreeIn_at {w : World} {b gp : Nat} {B : List Int} {ps : List (Int × Int)} (h : ShAt w b gp B ps) (h64 : In64 (putAll B ps)) (k : Nat) (hk : k < 4) :
    Calls Tryd.prog 15 #[.pointer (some ⟨b, 0, none⟩), .int .i64 (k : Int)] w fun e w' => e = .returned (.int .u64 ((frW (putAll B ps) k : Nat) : Int)) ∧ w = w' := by
  have HG := Lib.hid (txGet_at h ((816 + k : Nat) : Int))
  rw [getN_bits h64 k (by omega)] at HG
  have hx := xor_int _ (bw_lt h64 k)
  have ek : IntKind.i64.wrap (816 + (k : Int)) = ((816 + k : Nat) : Int) := by rw [IntWalk.i64_in _ (by omega)]; omega
  by_cases h0 : k = 0
  · subst h0
    have HM : Hid (Calls Tryd.prog 21 #[.int .i64 0] w (fun e w' => e = .returned (.int .u64 1) ∧ w = w')) := paMaskOf_at 0 (by decide) w
    have ha : bits .andNot .u64 (((18446744073709551615 - bw (putAll B ps) 0 : Nat)) : Int) 1 = ((frW (putAll B ps) 0 : Nat) : Int) := by
      rw [frW, if_pos rfl]
      exact u64_andNot_nat (18446744073709551615 - bw (putAll B ps) 0) 1 (by omega) (by decide)
    generalize frW (putAll B ps) 0 = f at *
    generalize 18446744073709551615 - bw (putAll B ps) 0 = y at *
    generalize bw (putAll B ps) 0 = x at *
    clear h h64
    go_enter Tryd.func15, Tryd.ntmps15
    go_wp2_with fail
    refine HG.out.mono ?_; rintro e w' ⟨rfl, rfl⟩
    go_wp2_with fail
    refine HM.out.mono ?_; rintro e w' ⟨rfl, rfl⟩
    go_wp2_with fail
    go_ret
    exact ⟨rfl, rfl⟩
  · have e0 : ((k : Int) == 0) = false := by simp; omega
    have hf : 18446744073709551615 - bw (putAll B ps) k = frW (putAll B ps) k := by rw [frW, if_neg h0]
    rw [hf] at hx
    clear hf
    generalize frW (putAll B ps) k = f at *
    generalize bw (putAll B ps) k = x at *
    clear h h64
    go_enter Tryd.func15, Tryd.ntmps15
    go_wp2_with fail
    refine HG.out.mono ?_; rintro e w' ⟨rfl, rfl⟩
    go_wp2_with fail
    go_ret
    exact ⟨rfl, rfl⟩

end Go.Proofs.YtpndogcdmoeemaaDoor

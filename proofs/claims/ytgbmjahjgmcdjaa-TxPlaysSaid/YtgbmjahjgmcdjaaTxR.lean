/-
  Layer 4's reference: Get.
-/
import Derived.Test.YtgbmjahjgmcdjaaTxM
import Derived.Test.YtgbmjahjgmcdjaaCelQ
import Derived.Test.YtgbmjahjgmcdjaaLaw
namespace Go.Proofs.Ytgbmjahjgmcdjaa
open Go.RowKit

theorem getN_nil (ws : List Int) (i : Int) : getN (padW ws) [] i = if 0 ≤ i ∧ i < 3128 then ws.getD i.toNat 0 else 0 := by
  unfold getN
  by_cases h : 0 ≤ i ∧ i < 3128
  · rw [if_pos h, if_pos h, putAll_nil, padW_get, if_pos (by omega)]
  · rw [if_neg h, if_neg h]

theorem getN_hit {B : List Int} {ps : List (Int × Int)} (hb : B.length = 3128) (hp : inP ps 3128) {k : Nat} (h : k < ps.length) : getN B (ps.take (k + 1)) (patN ps k) = pwdN ps k := by
  obtain ⟨h0, h1⟩ := inP_get hp h
  unfold getN
  rw [if_pos ⟨h0, h1⟩, putAll_take_succ _ _ _ h, getD_set_eq _ (by rw [putAll_len]; omega)]

theorem getN_miss {B : List Int} {ps : List (Int × Int)} (hp : inP ps 3128) {k : Nat} (h : k < ps.length) {i : Int} (hi : patN ps k ≠ i) : getN B (ps.take (k + 1)) i = getN B (ps.take k) i := by
  obtain ⟨h0, h1⟩ := inP_get hp h
  unfold getN
  by_cases hc : 0 ≤ i ∧ i < 3128
  · rw [if_pos hc, if_pos hc, putAll_take_succ _ _ _ h, getD_set_ne _ (by omega)]
  · rw [if_neg hc, if_neg hc]

set_option maxRecDepth 100000 in
set_option maxHeartbeats 2000000 in
theorem txRefGet_at {w : World} {v vp : Value} {g gp : Nat} {ws : List Int} {ps : List (Int × Int)} (h : Reads w v g (u64s ws)) (hp : PReads w vp gp ps) (hin : inP ps 3128) (i : Int) :
    Calls Try.prog 8 #[v, vp, .int .i64 i] w fun e w' => e = .returned (.int .u64 (getN (padW ws) ps i)) ∧ w = w' := by
  have HP := Lib.hid hp
  have HIN := Lib.hid hin
  obtain ⟨ap, cp, rfl, p1, p2⟩ := hp.val
  obtain ⟨a, cap, rfl, q1, q2, HC⟩ := u64s_cell h
  unfold maxLen at p2 q2
  clear h hp hin
  have HST : Hid (getN (padW ws) ps i = getN (padW ws) (ps.take ps.length) i) := by rw [List.take_of_length_le (Nat.le_refl _)]; rfl
  have HPL := Lib.hid (padW_len ws)
  go_enter Try.func8, Try.ntmps8
  go_wp2_with fail
  go_loopg [7] ps.length (fun gh s7 wx => ∃ k : Nat, k = gh ∧ k ≤ ps.length ∧ s7 = .int .i64 ((k : Int) - 1) ∧ Hid (getN (padW ws) ps i = getN (padW ws) (ps.take k) i) ∧ wx = w)
  case atStart => exact ⟨ps.length, rfl, Nat.le_refl _, rfl, HST.out, rfl⟩
  case round =>
    obtain ⟨k, hk, hkn, rfl, HR, rfl⟩ := hrel
    cases gk with
    | zero =>
      obtain rfl : k = 0 := hk
      clear hkn
      have HF : Hid (getN (padW ws) ps i = if 0 ≤ i ∧ i < 3128 then ws.getD i.toNat 0 else 0) := HR.out.trans (getN_nil ws i)
      clear HR HST
      by_cases h0 : i < 0
      · rw [if_neg (by omega)] at HF
        go_wp2_with fail
        go_ret
        exact ⟨by rw [HF.out]; rfl, rfl⟩
      · by_cases h1 : i < (ws.length : Int)
        · by_cases h2 : i < 3128
          · rw [if_pos (by omega)] at HF
            obtain ⟨j, rfl⟩ := Int.eq_ofNat_of_zero_le (show 0 ≤ i by omega)
            rw [Int.toNat_natCast] at HF
            obtain ⟨hg, off, rfl, c0⟩ := HC.out j (by omega)
            generalize ws.getD j 0 = x at *
            have d0 : decide ((j : Int) < 0) = false := by simp
            have d1 : decide ((ws.length : Int) ≤ (j : Int)) = false := by simp; omega
            have d2 : ¬ (3128 : Int) ≤ (j : Int) := by omega
            have d3 : (0 : Int) ≤ (j : Int) := by omega
            clear h0
            go_wp2_with fail
            go_ret
            exact ⟨by rw [HF.out]; rfl, rfl⟩
          · rw [if_neg (by omega)] at HF
            have d0 : decide (i < 0) = false := by simpa using h0
            have d1 : decide ((ws.length : Int) ≤ i) = false := by simp; omega
            have d2 : (3128 : Int) ≤ i := by omega
            go_wp2_with fail
            go_ret
            exact ⟨by rw [HF.out]; rfl, rfl⟩
        · have HF2 : Hid (getN (padW ws) ps i = 0) := by
            have := HF.out
            rw [this]
            split
            · show List.getD _ _ _ = _
              rw [List.getD_eq_getElem?_getD, List.getElem?_eq_none (by omega)]; rfl
            · rfl
          have d0 : decide (i < 0) = false := by simpa using h0
          have d1 : decide ((ws.length : Int) ≤ i) = true := by simp; omega
          clear HF
          go_wp2_with fail
          go_ret
          exact ⟨by rw [HF2.out]; rfl, rfl⟩
    | succ gg =>
      obtain rfl : k = gg + 1 := hk
      have ek : ((gg + 1 : Nat) : Int) - 1 = (gg : Int) := by omega
      rw [ek]
      clear ek
      have hk0 : (0 : Int) ≤ (gg : Int) := by omega
      have hk1 : (gg : Int) < (ps.length : Int) := by omega
      obtain ⟨hg, off, rfl, c0, c1⟩ := HP.out.get (j := gg) (by omega)
      by_cases hx : patN ps gg = i
      · have HF : Hid (getN (padW ws) ps i = pwdN ps gg) := by
          have h2 := getN_hit (B := padW ws) HPL.out HIN.out (k := gg) (by omega)
          rw [hx] at h2
          exact HR.out.trans h2
        rw [hx] at c0
        have e1 : (i == i) = true := by simp
        clear hx
        generalize pwdN ps gg = y at *
        go_wp2_with fail
        go_ret
        exact ⟨by rw [HF.out]; rfl, rfl⟩
      · have HF := Lib.hid (HR.out.trans (getN_miss HIN.out (by omega) hx))
        have e1 : (patN ps gg == i) = false := by simpa using hx
        clear hx
        generalize patN ps gg = x at *
        go_wp2_with fail
        go_roundg gg
        case measure => omega
        case rel => exact ⟨gg, rfl, by omega, rfl, HF.out, rfl⟩

end Go.Proofs.Ytgbmjahjgmcdjaa

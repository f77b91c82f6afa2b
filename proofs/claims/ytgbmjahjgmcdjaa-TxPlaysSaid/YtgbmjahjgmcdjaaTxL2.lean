/-
  Layer 4: what the law TxPlays asks in the end (pairs), walked.
-/
import Derived.Test.YtgbmjahjgmcdjaaTxE
import Derived.Test.YtgbmjahjgmcdjaaTxR
import Derived.Test.YtgbmjahjgmcdjaaTxL1
namespace Go.Proofs.Ytgbmjahjgmcdjaa
open Go.RowKit

theorem getN_in {B : List Int} {ps : List (Int × Int)} {i : Nat} (h : i < 3128) : getN B ps (i : Int) = (putAll B ps).getD i 0 := by
  unfold getN
  rw [if_pos (by omega), Int.toNat_natCast]

set_option maxRecDepth 100000 in
set_option maxHeartbeats 4000000 in
theorem txLawPairs_at {w : World} {v vq : Value} {b gp g gq : Nat} {ws : List Int} {ps : List (Int × Int)} (hs : ShAt w b gp (padW ws) ps) (h : Reads w v g (u64s ws)) (hp : PReads w vq gq ps) :
    Calls Try.prog 12 #[.pointer (some ⟨b, 0, none⟩), v, vq] w fun e w' => e = .returned (.bool true) ∧ Keeps [] w w' := by
  have HS := Lib.hid hs
  have H := Lib.hid h
  have HP := Lib.hid hp
  have HIN := Lib.hid hs.inp
  obtain ⟨ap, cp, rfl, -, -⟩ := hp.val
  obtain ⟨a, cap, rfl, -, -, -⟩ := u64s_cell h
  clear hs h hp
  go_enter Try.func12, Try.ntmps12
  go_wp2_with fail
  refine (txWords_at HS.out).mono ?_
  rintro e w1 ⟨vW, gW, rfl, hrW, -, hk1⟩
  have HK1 := Lib.hid hk1
  have HRW := Lib.hid hrW
  clear hrW hk1
  go_wp2_with fail
  refine (txPairs_at (HS.out.keep HK1.out (by simp) (by simp))).mono ?_
  rintro e w2 ⟨vP, gP, rfl, hrP, -, hk2⟩
  have HK2 := Lib.hid (HK1.out.trans hk2 (by simp))
  obtain ⟨aW, cW, rfl, w1', w2', HW⟩ := u64s_cell (HRW.out.keep hk2 (by simp))
  obtain ⟨aP, cP, rfl, p1', p2'⟩ := hrP.val
  have HRP := Lib.hid hrP
  have HXL : Hid ((putAll (padW ws) ps).length = 3128) := by show List.length _ = _; rw [putAll_len, padW_len]
  rw [HXL.out] at HW w1' ⊢
  unfold maxLen at w2' p2'
  have HR2 := Lib.hid (H.out.keep HK2.out (by simp))
  have HP2 := Lib.hid (HP.out.keep HK2.out (by simp))
  have HN2 : Hid (PReads w2 (.slice none 0 0) 0 []) := PReads.nil w2 0
  have HB : Hid (∀ i : Nat, i < 3128 → getN (padW ws) [] (i : Int) = (padW ws).getD i 0) := fun i hi => getN_in hi
  have HX : Hid (∀ i : Nat, i < 3128 → getN (padW ws) ps (i : Int) = (putAll (padW ws) ps).getD i 0) := fun i hi => getN_in hi
  clear hrP hk2 HK1 HRW H HP HS
  have HRG := Lib.hid (fun i => txRefGet_at HR2.out HP2.out HIN.out i)
  have HRN := Lib.hid (fun i => txRefGet_at HR2.out HN2.out (inP_nil _) i)
  clear HR2 HP2 HN2
  generalize putAll (padW ws) ps = X at *
  generalize padW ws = B at *
  generalize hD : (diffTo B X 3128).length = m at *
  have HD := Lib.hid hD
  clear hD
  go_wp2_with fail
  go_loopg [9, 10] 3128 (fun gh s9 s10 wx => ∃ k : Nat, k + gh = 3128 ∧ s10 = .int .i64 (k : Int) ∧ s9 = .int .i64 (((diffTo B X k).length : Nat) : Int) ∧ wx = w2)
  case atStart => exact ⟨0, by omega, rfl, rfl, rfl⟩
  case round =>
    obtain ⟨k, hk, rfl, rfl, rfl⟩ := hrel
    cases gk with
    | zero =>
      obtain rfl : k = 3128 := by omega
      rw [HD.out]
      clear hk
      have e1 : ((m : Int) == (m : Int)) = true := by simp
      have e2 : (m == m) = true := by simp
      go_wp2_with fail
      go_ret
      exact ⟨rfl, HK2.out⟩
    | succ gg =>
      have hk3 : k < 3128 := by omega
      have hlt : (k : Int) < 3128 := by omega
      have hk0 : (0 : Int) ≤ (k : Int) := by omega
      obtain ⟨hg, off, rfl, c0⟩ := HW.out k hk3
      have HG := HRG.out (k : Int)
      rw [HX.out k hk3] at HG
      have HG := Lib.hid HG
      have HN := HRN.out (k : Int)
      rw [HB.out k hk3] at HN
      have HN := Lib.hid HN
      have hle := diffTo_len B X k
      by_cases hx : X.getD k 0 = B.getD k 0
      · have HDD := Lib.hid (diffTo_same B X k hx)
        have e1 : (X.getD k 0 != B.getD k 0) = false := by simpa using hx
        clear hx
        generalize X.getD k 0 = x at *
        generalize B.getD k 0 = y at *
        have e0 : (x != x) = false := by simp
        go_wp2_with fail
        refine HG.out.mono ?_; rintro e w' ⟨rfl, rfl⟩
        go_wp2_with fail
        refine HN.out.mono ?_; rintro e w' ⟨rfl, rfl⟩
        go_wp2_with fail
        go_roundg gg
        case measure => omega
        case rel => exact ⟨k + 1, by omega, by go_num, by rw [HDD.out], rfl⟩
      · have HDD : Hid ((diffTo B X (k + 1)).length = (diffTo B X k).length + 1) := by show List.length _ = _; rw [diffTo_new B X k hx]; simp
        have e1 : (X.getD k 0 != B.getD k 0) = true := by simpa using hx
        obtain ⟨d1, d2, d3⟩ := diffTo_at B X k 3128 hk3 hx
        obtain ⟨-, offP, rfl, q0, q1⟩ := HRP.out.get (j := (diffTo B X k).length) d1
        rw [HD.out] at d1
        rw [d2] at q0
        rw [d3] at q1
        clear hx d2 d3
        generalize X.getD k 0 = x at *
        generalize B.getD k 0 = y at *
        generalize (diffTo B X k).length = q at *
        have e0 : (x != x) = false := by simp
        have f1 : decide ((m : Int) ≤ (q : Int)) = false := by simp; omega
        have f1' : decide (m ≤ q) = false := by simp; omega
        have f2 : ((k : Int) != (k : Int)) = false := by simp
        have f3 : (0 : Int) ≤ (q : Int) := by omega
        have f4 : (q : Int) < (m : Int) := by omega
        go_wp2_with fail
        refine HG.out.mono ?_; rintro e w' ⟨rfl, rfl⟩
        go_wp2_with fail
        refine HN.out.mono ?_; rintro e w' ⟨rfl, rfl⟩
        go_wp2_with fail
        go_roundg gg
        case measure => omega
        case rel => exact ⟨k + 1, by omega, by go_num, by rw [HDD.out]; go_num, rfl⟩

end Go.Proofs.Ytgbmjahjgmcdjaa

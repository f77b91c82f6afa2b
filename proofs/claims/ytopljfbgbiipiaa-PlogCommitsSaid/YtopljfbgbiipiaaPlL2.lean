/-
  Layer 3: the law PlogCommits, walked.
-/
import Derived.Test.YtopljfbgbiipiaaPlL1
namespace Go.Proofs.Ytopljfbgbiipiaa
open Go.RowKit

theorem crashM_same (ks : List Int) : ∀ (l : List Int) (k : Nat), crashM ks l l k = l
  | [], _ => rfl
  | a :: l, k => by simp [crashM, crashM_same ks l k]

theorem calm_crash (xs : List Int) (d : Int) (ks : List Int) : (calm xs d).crash ks = calm xs d := by
  simp [PmS.crash, calm, crashM_same]

theorem crash_nil {w : World} {b gn gl gf : Nat} {xs : List Int} {d : Int} (h : PmAt w b gn gl gf (calm xs d)) :
    Calls Try.prog 17 #[.pointer (some ⟨b, 0, none⟩), .slice none 0 0] w fun e w' => e = .returned (.tuple #[]) ∧ PmAt w' b gn gl gf (calm xs d) ∧ Keeps [b, gn, gl, gf] w w' := by
  have := crash_at h (v := .slice none 0 0) (g := b + gn + gl + gf + 1) (ks := []) ⟨none, 0, rfl, by simp [u8s], by simp [maxLen], fun h => absurd rfl h⟩ (by simp) (by simp; omega)
  rw [calm_crash] at this
  exact this

set_option maxRecDepth 100000 in
set_option maxHeartbeats 4000000 in
theorem commits_at {w : World} {v : Value} {g : Nat} {ps : List (Int × Int)} (h : PReads w v g ps) (hok : okP ps) (cut : Bool) :
    Calls Try.prog 4 #[v, .bool cut] w fun e w' => e = .returned (.bool true) ∧ Below w.heap.size w w' := by
  have HW := Lib.hid awake_at
  have H := Lib.hid h
  have OK := Lib.hid hok
  obtain ⟨a, cap, rfl, a1, a2⟩ := h.val
  unfold maxLen at a2
  clear h hok
  by_cases hl : ps.length ≤ 420
  · have hl1 : ¬ (420 : Int) < (ps.length : Int) := by omega
    have HZ := Lib.hid zerosN_len
    have HZ8 := Lib.hid (zerosN_get 8)
    cases cut
    all_goals
      go_enter Try.func4, Try.ntmps4
      go_wp2_with fail
      refine (HW.out _).mono ?_; rintro e w1 ⟨rfl, hk1⟩
      have HK1 := Lib.hid hk1
      clear hk1
      go_wp2_with fail
    have HR := Lib.hid (H.out.keep HK1.out (by simp))
    have HK := HK1
    obtain ⟨w2, rfl⟩ : ∃ w2 : World, w2 = w1 := ⟨_, rfl⟩
    obtain ⟨qs, rfl⟩ : ∃ qs : List (Int × Int), qs = ps := ⟨_, rfl⟩
    obtain ⟨g2, rfl⟩ : ∃ g2 : Nat, g2 = g := ⟨_, rfl⟩
    have hl2 := hl
    clear HK1 H hl hl1 a1 a2
    rotate_left
    refine (places_at (H.out.keep HK1.out (by simp)) OK.out (by omega)).mono ?_
    rintro e w2 ⟨v2, g2, rfl, hr2, -, hk2⟩
    obtain ⟨aa2, ca2, rfl, -, -⟩ := hr2.val
    have HR := Lib.hid hr2
    have HK := Lib.hid (HK1.out.trans hk2 (by simp))
    have OK := Lib.hid (placesN_ok OK.out)
    have hl2 : (placesN ps).length ≤ 420 := by rw [placesN_len]; exact hl
    clear hr2 hk2 HK1 H hl hl1 a1 a2
    generalize placesN ps = qs at *
    go_wp2_with fail
    all_goals
      refine (new3128_at _).mono ?_
      rintro e w3 ⟨b, gn, gl, gf, rfl, hp3, hlo, hk3⟩
      have HLO : Hid (∀ x, x ∈ [b, gn, gl, gf] → w.heap.size ≤ x) := fun x hx => Nat.le_trans HK.out.size (hlo x hx)
      have HGA := Lib.hid (HR.out.apart hlo)
      have HR := Lib.hid (HR.out.keep hk3 (by simp))
      have HK := Lib.hid (HK.out.trans hk3 (by simp))
      have HP3 := Lib.hid hp3
      clear hp3 hlo hk3
      cases hgb : goodB qs
      · have HNO : Hid (¬ (qs.length ≤ 400 ∧ goodP qs = true)) := fun e => by
          rw [goodB, e.2, decide_eq_true e.1] at hgb
          cases hgb
        have HGB := Lib.hid hgb
        clear hgb
        go_wp2_with fail
        refine (commit_no HP3.out HZ.out HR.out OK.out HNO.out).mono ?_
        rintro e w4 ⟨rfl, hk4⟩
        have HR4 := Lib.hid (HR.out.keep hk4 (by simp))
        have HK4 := Lib.hid (HK.out.trans hk4 (by simp))
        have HP4 := Lib.hid (HP3.out.keep hk4 (by simp) (by simp))
        clear hk4
        go_wp2_with fail
        refine (refGood_at HR4.out (by omega)).mono ?_; rintro e w' ⟨rfl, rfl⟩
        rw [HGB.out]
        go_wp2_with fail
        refine (deeds_at HP4.out).mono ?_; rintro e w' ⟨rfl, rfl⟩
        rw [show (calm zerosN 0).deeds = 0 from rfl]
        go_wp2_with fail
        go_ret
        exact ⟨rfl, HK4.out.below (Nat.le_refl _) (by simp)⟩
      · have HYES : Hid (qs.length ≤ 400 ∧ goodP qs = true) := by
          show qs.length ≤ 400 ∧ goodP qs = true
          rw [goodB, Bool.and_eq_true, decide_eq_true_iff] at hgb
          exact ⟨hgb.2, hgb.1⟩
        have HGB := Lib.hid hgb
        clear hgb
        go_wp2_with fail
        refine (commit_ok HP3.out (by omega) (by omega) HZ.out HR.out OK.out HYES.out.2 HYES.out.1 HGA.out).mono ?_
        rintro e w4 ⟨rfl, hp4, hk4⟩
        have HR4 := Lib.hid (HR.out.keep hk4 HGA.out)
        have HK4 := Lib.hid (keeps_new HK.out hk4 HLO.out)
        have HP4 := Lib.hid hp4
        have HX : Hid ((commitX zerosN qs).length = 3128) := by show (commitX zerosN qs).length = 3128; rw [commitX_len, HZ.out]
        have H8 : Hid ((commitX zerosN qs).getD 8 0 = 0) := commitX_8 _ _ (by rw [HZ.out]; omega) HZ8.out
        have HAG : Hid (AgreeP (putAll zerosN qs) (commitX zerosN qs)) := commitX_agree _ _ HYES.out.1
        clear hp4 hk4 HP3 HR HK
        generalize commitX zerosN qs = xs at *
        go_wp2_with fail
        refine (refGood_at HR4.out (by omega)).mono ?_; rintro e w' ⟨rfl, rfl⟩
        rw [HGB.out]
        go_wp2_with fail
        refine (deeds_at HP4.out).mono ?_; rintro e w' ⟨rfl, rfl⟩
        rw [show (calm xs (0 + (deedsN qs : Nat))).deeds = (deedsN qs : Nat) from Int.zero_add _]
        go_wp2_with fail
        refine (crash_nil HP4.out).mono ?_
        rintro e w5 ⟨rfl, hp5, hk5⟩
        have HR5 := Lib.hid (HR4.out.keep hk5 HGA.out)
        have HK5 := Lib.hid (keeps_new HK4.out hk5 HLO.out)
        have HP5 := Lib.hid hp5
        clear hp5 hk5 HP4 HR4 HK4
        go_wp2_with fail
        refine (refDeeds_at HR5.out (goodP_in HYES.out.2) (by omega)).mono ?_
        rintro e w6 ⟨rfl, m, rfl⟩
        have HP6 := Lib.hid (HP5.out.drewN m)
        have HR6 := Lib.hid (HR5.out.keep ((Keeps.refl [] w5).drewN m) (by simp))
        have HK6 := Lib.hid (HK5.out.drewN m)
        clear HP5 HR5 HK5
        generalize w5.drewN m = w6 at *
        generalize ((deedsN qs : Nat) : Int) = dd at *
        obtain ⟨mc, hmk, hmo⟩ := make_zeros w6
        have HMO := Lib.hid hmo
        clear hmo
        go_wp2_with fail
        have hk7 : Keeps [] w6 (w6.alloc (.cells mc 40)) := (Keeps.refl _ _).alloc _
        refine (after_at HMO.out.reads HZ.out (HR6.out.keep hk7 (by simp)) (goodP_in HYES.out.2) (by omega)).mono ?_
        rintro e w7 ⟨v7, g7, rfl, hr7, hg7, hk8⟩
        obtain ⟨a7, c7, rfl, -, -, -⟩ := u64s_cell hr7
        have HK7 := Lib.hid (hk7.trans hk8 (by simp))
        have HR7 := Lib.hid hr7
        have HP7 := Lib.hid (HP6.out.keep HK7.out (by simp) (by simp))
        clear hr7 hk7 hk8
        go_wp2_with fail
        refine (same_at HP7.out HX.out HR7.out HAG.out H8.out).mono ?_; rintro e w' ⟨rfl, rfl⟩
        go_wp2_with fail
        go_ret
        exact ⟨rfl, (HK6.out.trans HK7.out (by simp)).below (Nat.le_refl _) (by simp)⟩
  · have hl1 : (420 : Int) < (ps.length : Int) := by omega
    go_enter Try.func4, Try.ntmps4
    go_wp2_with fail
    refine (HW.out _).mono ?_; rintro e w1 ⟨rfl, hk1⟩
    have HK1 := Lib.hid hk1
    clear hk1
    go_wp2_with fail
    refine (HW.out _).mono ?_; rintro e w2 ⟨rfl, hk2⟩
    have HK2 := Lib.hid (HK1.out.trans hk2 (by simp))
    clear hk2
    go_wp2_with fail
    go_ret
    exact ⟨rfl, HK2.out.below (Nat.le_refl _) (by simp)⟩

end Go.Proofs.Ytopljfbgbiipiaa

/-
  Layer 3 (plog): Commit, Standing, Replay, of a memory at rest.
-/
import Derived.Test.YtopljfbgbiipiaaPlE
namespace Go.Proofs.Ytopljfbgbiipiaa
open Go.RowKit

theorem len_calm {w : World} {b gn gl gf : Nat} {xs : List Int} {d : Int} (h : PmAt w b gn gl gf (calm xs d)) (hx : xs.length = 3128) :
    Calls Try.prog 24 #[.pointer (some ⟨b, 0, none⟩)] w fun e w' => e = .returned (.int .i64 3128) ∧ w = w' := by
  have := len_at h
  rw [show ((calm xs d).now.length : Int) = 3128 by show (xs.length : Int) = 3128; omega] at this
  exact this

theorem goodP_in {ps : List (Int × Int)} (h : goodP ps = true) : inP ps 3128 := fun p hp => by have := goodP_mem h hp; omega
theorem logN_in {ps : List (Int × Int)} (h : ps.length ≤ 400) : inP (logN (wordsN ps)) 3128 := fun p hp => by
  have := logN_mem hp
  rw [wordsN_len] at this
  omega

/-- What a commit leaves. -/
def Committed (w : World) (b gn gl gf : Nat) (xs : List Int) (d : Int) (e : Ending) (w' : World) : Prop :=
  e = .returned (.int .i64 0) ∧ PmAt w' b gn gl gf (calm xs d) ∧ Keeps [b, gn, gl, gf] w w'

set_option maxHeartbeats 2000000 in
theorem commit_ok {w : World} {b gn gl gf : Nat} {xs : List Int} {d : Int} (h : PmAt w b gn gl gf (calm xs d)) (h0 : 0 ≤ d) (hd : d < 1000000000000000000) (hx : xs.length = 3128) {v : Value} {g : Nat} {ps : List (Int × Int)} (hr : PReads w v g ps)
    (hok : okP ps) (hgd : goodP ps = true) (hn : ps.length ≤ 400) (hg : ps.length ≠ 0 → g ∉ [b, gn, gl, gf]) :
    Calls Try.prog 10 #[.pointer (some ⟨b, 0, none⟩), v] w (Committed w b gn gl gf (commitX xs ps) (d + (deedsN ps : Nat))) := by
  have H := Lib.hid h
  have HR := Lib.hid hr
  have HX := Lib.hid hx
  have HG := Lib.hid hg
  have HGD := Lib.hid hgd
  have HOK := Lib.hid hok
  have HL := Lib.hid (len_calm h hx)
  have HW := Lib.hid (wordsOf_at hr hok hn)
  obtain ⟨a, cap, rfl, h1, h2⟩ := hr.val
  unfold maxLen at h2
  have HOLD := Lib.hid (h.old (by show xs.length ≠ 0; omega))
  have q4 : ¬ (400 : Int) < (ps.length : Int) := by omega
  clear h hr hok hg hgd hx
  go_enter Try.func10, Try.ntmps10
  go_wp2_with fail
  refine HL.out.mono ?_; rintro e w' ⟨rfl, rfl⟩
  go_wp2_with fail
  refine HW.out.mono ?_
  rintro e w1 ⟨vw, gw, rfl, hrw, hgw, hk1⟩
  obtain ⟨aw, cw, rfl, -, -, -⟩ := u64s_cell hrw
  have HRW := Lib.hid hrw
  have HK1 := Lib.hid hk1
  have HU := Lib.hid (wordsN_u64 HOK.out)
  have HPL := allPlaces_at hrw HU.out ps.length (wordsN_len ps) (by omega)
  rw [placesB_wordsN HOK.out, HGD.out] at HPL
  have HPL := Lib.hid HPL
  have HP1 := Lib.hid (H.out.keep hk1 (by simp) (by simp))
  clear hrw hk1
  go_wp2_with fail
  refine HPL.out.mono ?_; rintro e w' ⟨rfl, rfl⟩
  go_wp2_with fail
  refine (load_calm HP1.out 8 (by omega) (by rw [HX.out]; omega)).mono ?_; rintro e w' ⟨rfl, rfl⟩
  by_cases hz : ps.length = 0
  · obtain rfl : ps = [] := List.eq_nil_of_length_eq_zero hz
    clear hz
    go_wp2_with fail
    go_ret
    refine ⟨rfl, ?_, HK1.out.mono (by simp)⟩
    simpa [commitX, deedsN] using HP1.out
  · have hz1 : ((ps.length : Int) == 0) = false := beq_eq_false_iff_ne.2 (by omega)
    have hz2 : (ps.length == 0) = false := beq_eq_false_iff_ne.2 hz
    have HNE : Hid (ps ≠ []) := fun e => hz (by rw [e]; rfl)
    have HZ := Lib.hid hz
    clear hz
    go_wp2_with fail
    refine (inLog_at HRW.out (by rw [wordsN_len]; omega)).mono ?_
    rintro e w2 ⟨vl, gl2, rfl, hrl, hgl2, hk2⟩
    obtain ⟨al, cl, rfl, -, -⟩ := hrl.val
    have HK2 := Lib.hid hk2
    have ho := HOLD.out
    have hz1 := HK1.out.size
    have HSE := Lib.hid (settle_at (HP1.out.keep hk2 (by simp) (by simp)) h0 (by omega) hrl (by rw [HX.out]; exact logN_in hn) (by rw [logN_len, wordsN_len]; omega) (by rw [HX.out]; omega) (by intro _ hm; simp only [List.mem_cons, List.not_mem_nil, or_false] at hm; omega))
    clear hrl hk2 ho hz1
    go_wp2_with fail
    refine HSE.out.mono ?_
    rintro e w3 ⟨rfl, hp3, hk3⟩
    have HP3 := Lib.hid hp3
    have ho := HOLD.out
    have hrw3 := (HRW.out.keep HK2.out (by simp)).keep hk3 (by intro hm; simp only [List.mem_cons, List.not_mem_nil, or_false] at hm; omega)
    have HCW := Lib.hid (commitWord_at hrw3 HU.out (by rw [wordsN_len]; omega))
    have HK3 : Hid (Keeps [b, gn, gl, gf] w w3) := ((HK1.out.trans HK2.out (by simp)).mono (by simp)).trans' hk3
    clear hp3 hk3 hrw3 ho
    go_wp2_with fail
    refine HCW.out.mono ?_
    rintro e w4 ⟨rfl, hk4⟩
    have hs1 := settleD_le (logN (wordsN ps))
    rw [logN_len, wordsN_len] at hs1
    have HSW := Lib.hid (settleCommitWord_at (HP3.out.keep hk4 (by simp) (by simp)) (by omega) (by omega) (by rw [putAll_len]; exact HX.out) (markN (wordsN ps)))
    have HK4 := Lib.hid (HK3.out.trans hk4 (by simp))
    clear hk4
    go_wp2_with fail
    refine HSW.out.mono ?_
    rintro e w5 ⟨rfl, hp5, hk5⟩
    have HK5 := Lib.hid (HK4.out.trans' hk5)
    have HCA := Lib.hid (carryOut_at hp5 (by omega) (by omega) (by rw [putAll_len, putAll_len]; exact HX.out) (HR.out.keep HK5.out HG.out) (goodP_in HGD.out) (by omega) HG.out)
    clear hp5 hk5
    go_wp2_with fail
    refine HCA.out.mono ?_
    rintro e w6 ⟨rfl, hp6, hk6⟩
    have HP6 := Lib.hid hp6
    have HK6 := Lib.hid (HK5.out.trans' hk6)
    clear hp6 hk6
    go_wp2_with fail
    go_ret
    refine ⟨rfl, ?_, HK6.out⟩
    rw [commitX, if_neg HNE.out, deedsN, if_neg HNE.out]
    have := HP6.out
    rw [show d + ((settleD (logN (wordsN ps)) + 3 + settleD ps + 3 : Nat) : Int) = d + (settleD (logN (wordsN ps)) : Nat) + 3 + (settleD ps : Nat) + 3 by omega]
    exact this

set_option maxHeartbeats 2000000 in
theorem commit_no {w : World} {b gn gl gf : Nat} {xs : List Int} {d : Int} (h : PmAt w b gn gl gf (calm xs d)) (hx : xs.length = 3128) {v : Value} {g : Nat} {ps : List (Int × Int)} (hr : PReads w v g ps)
    (hok : okP ps) (hb : ¬ (ps.length ≤ 400 ∧ goodP ps = true)) :
    Calls Try.prog 10 #[.pointer (some ⟨b, 0, none⟩), v] w fun e w' => e = .returned (.int .i64 1) ∧ Keeps [] w w' := by
  have HL := Lib.hid (len_calm h hx)
  have HR := Lib.hid hr
  obtain ⟨a, cap, rfl, h1, h2⟩ := hr.val
  unfold maxLen at h2
  by_cases hn : ps.length ≤ 400
  · have hgd : goodP ps = false := by
      cases hg : goodP ps
      · rfl
      · exact absurd ⟨hn, hg⟩ hb
    have HGD := Lib.hid hgd
    have HOK := Lib.hid hok
    have HW := Lib.hid (wordsOf_at HR.out hok hn)
    have q4 : ¬ (400 : Int) < (ps.length : Int) := by omega
    clear h hr hok hx hb hgd
    go_enter Try.func10, Try.ntmps10
    go_wp2_with fail
    refine HL.out.mono ?_; rintro e w' ⟨rfl, rfl⟩
    go_wp2_with fail
    refine HW.out.mono ?_
    rintro e w1 ⟨vw, gw, rfl, hrw, hgw, hk1⟩
    obtain ⟨aw, cw, rfl, -, -, -⟩ := u64s_cell hrw
    have HK1 := Lib.hid hk1
    have HPL := allPlaces_at hrw (wordsN_u64 HOK.out) ps.length (wordsN_len ps) (by omega)
    rw [placesB_wordsN HOK.out, HGD.out] at HPL
    have HPL := Lib.hid HPL
    clear hrw hk1
    go_wp2_with fail
    refine HPL.out.mono ?_; rintro e w' ⟨rfl, rfl⟩
    go_wp2_with fail
    go_ret
    exact ⟨rfl, HK1.out⟩
  · have q4 : (400 : Int) < (ps.length : Int) := by omega
    clear h hr hok hx hb
    go_enter Try.func10, Try.ntmps10
    go_wp2_with fail
    refine HL.out.mono ?_; rintro e w' ⟨rfl, rfl⟩
    go_wp2_with fail
    go_ret
    exact ⟨rfl, Keeps.refl _ _⟩

set_option maxHeartbeats 1000000 in
theorem commit_arg {w : World} {b gn gl gf : Nat} {s : PmS} (h : PmAt w b gn gl gf s) (hx : s.now.length ≠ 3128) (v : Value) :
    Calls Try.prog 10 #[.pointer (some ⟨b, 0, none⟩), v] w fun e w' => e = .returned (.int .i64 1) ∧ w = w' := by
  have HL := Lib.hid (len_at h)
  have hx1 : ((s.now.length : Int) != 3128) = true := by simp; omega
  clear h hx
  generalize s.now.length = n at *
  go_enter Try.func10, Try.ntmps10
  go_wp2_with fail
  refine HL.out.mono ?_; rintro e w' ⟨rfl, rfl⟩
  go_wp2_with fail
  go_ret
  exact ⟨rfl, rfl⟩

set_option maxHeartbeats 1000000 in
theorem standing_arg {w : World} {b gn gl gf : Nat} {s : PmS} (h : PmAt w b gn gl gf s) (hx : s.now.length ≠ 3128) :
    Calls Try.prog 11 #[.pointer (some ⟨b, 0, none⟩)] w fun e w' => e = .returned (.tuple #[.slice none 0 0, .bool false, .int .i64 1]) ∧ w = w' := by
  have HL := Lib.hid (len_at h)
  have hx1 : ((s.now.length : Int) != 3128) = true := by simp; omega
  clear h hx
  generalize s.now.length = n at *
  go_enter Try.func11, Try.ntmps11
  go_wp2_with fail
  refine HL.out.mono ?_; rintro e w' ⟨rfl, rfl⟩
  go_wp2_with fail
  go_ret3
  exact ⟨rfl, rfl⟩

set_option maxHeartbeats 1000000 in
theorem replay_arg {w : World} {b gn gl gf : Nat} {s : PmS} (h : PmAt w b gn gl gf s) (hx : s.now.length ≠ 3128) :
    Calls Try.prog 22 #[.pointer (some ⟨b, 0, none⟩)] w fun e w' => e = .returned (.int .i64 1) ∧ w = w' := by
  have HL := Lib.hid (standing_arg h hx)
  clear h hx
  go_enter Try.func22, Try.ntmps22
  go_wp2_with fail
  refine HL.out.mono ?_; rintro e w' ⟨rfl, rfl⟩
  go_wp2_with fail
  go_ret
  exact ⟨rfl, rfl⟩

end Go.Proofs.Ytopljfbgbiipiaa

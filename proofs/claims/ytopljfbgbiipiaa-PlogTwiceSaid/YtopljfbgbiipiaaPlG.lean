/-
  Layer 3 (plog): Standing, Replay, of a memory at rest.
-/
import Derived.Test.YtopljfbgbiipiaaPlF
namespace Go.Proofs.Ytopljfbgbiipiaa
open Go.RowKit

/-- So many pairs a commit word tells of. -/
def cntN (xs : List Int) : Nat := (xs.getD 8 0 / 4294967296).toNat

/-- What stands in words. -/
def standN (xs : List Int) : Option (List (Int × Int)) :=
  if 1 ≤ cntN xs ∧ cntN xs ≤ 400 ∧ xs.getD 8 0 = markN (segN xs (2 * cntN xs)) ∧ placesB (segN xs (2 * cntN xs)) (cntN xs) = true then some (pairsN (segN xs (2 * cntN xs)) (cntN xs)) else none

def StoodNone (w : World) (e : Ending) (w' : World) : Prop := e = .returned (.tuple #[.slice none 0 0, .bool false, .int .i64 0]) ∧ Keeps [] w w'
def StoodSome (w : World) (ps : List (Int × Int)) (e : Ending) (w' : World) : Prop := ∃ v g, e = .returned (.tuple #[v, .bool true, .int .i64 0]) ∧ PReads w' v g ps ∧ w.heap.size ≤ g ∧ Keeps [] w w'

theorem pload_atI {w : World} {b gn gl gf : Nat} {xs : List Int} {d : Int} (h : PmAt w b gn gl gf (calm xs d)) (m : Nat) (hm : m ≤ 800) (hx : xs.length = 3128) (M : Int) (hM : M = (m : Int)) :
    Calls Try.prog 32 #[.pointer (some ⟨b, 0, none⟩), .int .i64 9, .int .i64 M] w (LoadedWords w (segN xs m)) := by
  subst hM
  exact pload_at h m hm hx

set_option maxHeartbeats 2000000 in
theorem standing_none {w : World} {b gn gl gf : Nat} {xs : List Int} {d : Int} (h : PmAt w b gn gl gf (calm xs d)) (hx : xs.length = 3128) (hu : u64P xs) (hs : standN xs = none) :
    Calls Try.prog 11 #[.pointer (some ⟨b, 0, none⟩)] w (StoodNone w) := by
  have HL := Lib.hid (len_calm h hx)
  have HLO := Lib.hid (load_calm h 8 (by omega) (by rw [hx]; omega))
  rw [show (8 : Int).toNat = 8 from rfl] at HLO
  obtain ⟨c0, c1⟩ := u64P_get hu 8
  obtain ⟨n, hn⟩ : ∃ n : Nat, cntN xs = n := ⟨_, rfl⟩
  have hc : xs.getD 8 0 / 4294967296 = (n : Int) := by unfold cntN at hn; omega
  have HPL := Lib.hid (pload_atI h (2 * n))
  have HX := Lib.hid hx
  have HU := Lib.hid hu
  unfold standN at hs
  rw [hn] at hs
  have HS : Hid (¬ (1 ≤ n ∧ n ≤ 400 ∧ xs.getD 8 0 = markN (segN xs (2 * n)) ∧ placesB (segN xs (2 * n)) n = true)) := fun e => by rw [if_pos e] at hs; cases hs
  generalize hcc : xs.getD 8 0 = c at *
  clear h hx hu hn hcc hs
  by_cases h1 : n < 1
  · go_enter Try.func11, Try.ntmps11
    go_wp2_with fail
    refine HL.out.mono ?_; rintro e w' ⟨rfl, rfl⟩
    go_wp2_with fail
    refine HLO.out.mono ?_; rintro e w' ⟨rfl, rfl⟩
    go_wp2_with fail
    go_ret3
    exact ⟨rfl, Keeps.refl _ _⟩
  · by_cases h2 : 400 < n
    · go_enter Try.func11, Try.ntmps11
      go_wp2_with fail
      refine HL.out.mono ?_; rintro e w' ⟨rfl, rfl⟩
      go_wp2_with fail
      refine HLO.out.mono ?_; rintro e w' ⟨rfl, rfl⟩
      go_wp2_with fail
      go_ret3
      exact ⟨rfl, Keeps.refl _ _⟩
    · go_enter Try.func11, Try.ntmps11
      go_wp2_with fail
      refine HL.out.mono ?_; rintro e w' ⟨rfl, rfl⟩
      go_wp2_with fail
      refine HLO.out.mono ?_; rintro e w' ⟨rfl, rfl⟩
      go_wp2_with fail
      refine (HPL.out (by omega) HX.out _ (by omega)).mono ?_
      rintro e w1 ⟨vw, gw, rfl, hrw, hgw, hk1⟩
      obtain ⟨aw, cw, rfl, -, -, -⟩ := u64s_cell hrw
      have HRW := Lib.hid hrw
      have HK1 := Lib.hid hk1
      clear hrw hk1
      go_wp2_with fail
      refine (commitWord_at HRW.out (segN_u64 HU.out _) (by rw [segN_len]; omega)).mono ?_
      rintro e w2 ⟨rfl, hk2⟩
      have HK2 := Lib.hid (HK1.out.trans hk2 (by simp))
      have HPA := Lib.hid (allPlaces_at (HRW.out.keep hk2 (by simp)) (segN_u64 HU.out _) n (segN_len _ _) (by omega))
      clear hk2
      generalize hmk : markN (segN xs (2 * n)) = mk at *
      by_cases hm : c = mk
      · have hm1 : (c != mk) = false := by simpa using hm
        have HPF : Hid (placesB (segN xs (2 * n)) n = false) := by
          show placesB (segN xs (2 * n)) n = false
          cases hp : placesB (segN xs (2 * n)) n
          · rfl
          · exact absurd ⟨by omega, by omega, hm, hp⟩ HS.out
        rw [HPF.out] at HPA
        subst hm
        clear hmk
        go_wp2_with (go_at_call 26; refine HPA.out.mono ?_; rintro e w' ⟨rfl, rfl⟩)
        go_ret3
        exact ⟨rfl, HK2.out⟩
      · have hm1 : (c != mk) = true := by simpa using hm
        clear hmk hm
        go_wp2_with fail
        go_ret3
        exact ⟨rfl, HK2.out⟩

set_option maxHeartbeats 2000000 in
theorem standing_some {w : World} {b gn gl gf : Nat} {xs : List Int} {d : Int} (h : PmAt w b gn gl gf (calm xs d)) (hx : xs.length = 3128) (hu : u64P xs) {ps : List (Int × Int)} (hs : standN xs = some ps) :
    Calls Try.prog 11 #[.pointer (some ⟨b, 0, none⟩)] w (StoodSome w ps) := by
  have HL := Lib.hid (len_calm h hx)
  have HLO := Lib.hid (load_calm h 8 (by omega) (by rw [hx]; omega))
  rw [show (8 : Int).toNat = 8 from rfl] at HLO
  obtain ⟨c0, c1⟩ := u64P_get hu 8
  obtain ⟨n, hn⟩ : ∃ n : Nat, cntN xs = n := ⟨_, rfl⟩
  have hc : xs.getD 8 0 / 4294967296 = (n : Int) := by unfold cntN at hn; omega
  have HPL := Lib.hid (pload_atI h (2 * n))
  have HX := Lib.hid hx
  have HU := Lib.hid hu
  unfold standN at hs
  rw [hn] at hs
  split at hs
  · rename_i hcond
    obtain ⟨h1, h2, h3, h4⟩ := hcond
    cases hs
    have H3 := Lib.hid h3
    have H4 := Lib.hid h4
    clear h hx hu hn h3 h4
    generalize xs.getD 8 0 = c at *
    go_enter Try.func11, Try.ntmps11
    go_wp2_with fail
    refine HL.out.mono ?_; rintro e w' ⟨rfl, rfl⟩
    go_wp2_with fail
    refine HLO.out.mono ?_; rintro e w' ⟨rfl, rfl⟩
    go_wp2_with fail
    refine (HPL.out (by omega) HX.out _ (by omega)).mono ?_
    rintro e w1 ⟨vw, gw, rfl, hrw, hgw, hk1⟩
    obtain ⟨aw, cw, rfl, -, -, -⟩ := u64s_cell hrw
    have HRW := Lib.hid hrw
    have HK1 := Lib.hid hk1
    clear hrw hk1
    go_wp2_with fail
    refine (commitWord_at HRW.out (segN_u64 HU.out _) (by rw [segN_len]; omega)).mono ?_
    rintro e w2 ⟨rfl, hk2⟩
    have HK2 := Lib.hid (HK1.out.trans hk2 (by simp))
    have HR2 := Lib.hid (HRW.out.keep hk2 (by simp))
    have HPA := allPlaces_at HR2.out (segN_u64 HU.out _) n (segN_len _ _) (by omega)
    rw [H4.out] at HPA
    have HPA := Lib.hid HPA
    clear hk2
    rw [← H3.out]
    go_wp2_with (go_at_call 26; refine HPA.out.mono ?_; rintro e w' ⟨rfl, rfl⟩)
    refine (pairsOf_at HR2.out n (segN_len _ _) h2 H4.out).mono ?_
    rintro e w3 ⟨vp, gp, rfl, hrp, hgp, hk3⟩
    obtain ⟨ap, cp, rfl, -, -⟩ := hrp.val
    have HM : Hid (StoodSome w (pairsN (segN xs (2 * n)) n) (.returned (.tuple #[.slice ap (pairsN (segN xs (2 * n)) n).length cp, .bool true, .int .i64 0])) w3) :=
      ⟨_, gp, rfl, hrp, Nat.le_trans HK2.out.size hgp, HK2.out.trans hk3 (by simp)⟩
    clear hrp hgp hk3
    go_wp2_with fail
    go_ret3
    exact HM.out
  · cases hs

/-- A memory's words, behind a replay. -/
def replayX (xs : List Int) : List Int := match standN xs with | some ps => carryX xs ps | none => putAll xs [(8, 0)]

def Replayed (w : World) (b gn gl gf : Nat) (xs : List Int) (e : Ending) (w' : World) : Prop :=
  ∃ d, e = .returned (.int .i64 0) ∧ PmAt w' b gn gl gf (calm xs d) ∧ Keeps [b, gn, gl, gf] w w'

theorem standN_good {xs : List Int} {ps : List (Int × Int)} (h : standN xs = some ps) : goodP ps = true ∧ ps.length ≤ 400 := by
  unfold standN at h
  split at h
  · rename_i hc
    obtain ⟨h1, h2, h3, h4⟩ := hc
    cases h
    refine ⟨?_, by rw [pairsN_len]; exact h2⟩
    unfold goodP
    rw [List.all_eq_true]
    intro p hp
    simp only [pairsN, List.mem_map] at hp
    obtain ⟨k, hk, rfl⟩ := hp
    exact List.all_eq_true.1 h4 k hk
  · cases h

set_option maxHeartbeats 2000000 in
theorem replay_at {w : World} {b gn gl gf : Nat} {xs : List Int} {d : Int} (h : PmAt w b gn gl gf (calm xs d)) (h0 : 0 ≤ d) (hd : d < 1000000000000000000) (hx : xs.length = 3128) (hu : u64P xs) :
    Calls Try.prog 22 #[.pointer (some ⟨b, 0, none⟩)] w (Replayed w b gn gl gf (replayX xs)) := by
  have H := Lib.hid h
  have HX := Lib.hid hx
  have HOLD := Lib.hid (h.old (by show xs.length ≠ 0; omega))
  unfold replayX
  cases hs : standN xs with
  | some ps =>
    have HS := Lib.hid (standing_some h hx hu hs)
    have HG := Lib.hid (standN_good hs)
    clear h hx hu hs
    go_enter Try.func22, Try.ntmps22
    go_wp2_with fail
    refine HS.out.mono ?_
    rintro e w1 ⟨v, g, rfl, hr, hg, hk⟩
    obtain ⟨a, cap, rfl, -, -⟩ := hr.val
    have HK := Lib.hid hk
    have ho := HOLD.out
    have HC := Lib.hid (carryOut_at (H.out.keep hk (by simp) (by simp)) h0 (by omega) HX.out hr (goodP_in HG.out.1) (by have := HG.out.2; omega) (by intro _ hm; simp only [List.mem_cons, List.not_mem_nil, or_false] at hm; omega))
    clear hr hk ho
    go_wp2_with fail
    refine HC.out.mono ?_
    rintro e w2 ⟨rfl, hp2, hk2⟩
    have HP2 := Lib.hid hp2
    have HK2 := Lib.hid ((HK.out.mono (l' := [b, gn, gl, gf]) (by simp)).trans' hk2)
    clear hp2 hk2
    go_wp2_with fail
    go_ret
    exact ⟨_, rfl, HP2.out, HK2.out⟩
  | none =>
    have HS := Lib.hid (standing_none h hx hu hs)
    clear h hx hu hs
    go_enter Try.func22, Try.ntmps22
    go_wp2_with fail
    refine HS.out.mono ?_
    rintro e w1 ⟨rfl, hk⟩
    have HK := Lib.hid hk
    have HP := Lib.hid (H.out.keep hk (by simp) (by simp))
    clear hk
    go_wp2_with fail
    refine (load_calm HP.out 8 (by omega) (by rw [HX.out]; omega)).mono ?_; rintro e w' ⟨rfl, rfl⟩
    rw [show (8 : Int).toNat = 8 from rfl]
    have HZ := Lib.hid (set_getD_self xs 8 0)
    generalize xs.getD 8 0 = c at *
    by_cases hc : c = 0
    · subst hc
      go_wp2_with fail
      go_ret
      refine ⟨d, rfl, ?_, HK.out.mono (by simp)⟩
      rw [putAll_one, show (8 : Int).toNat = 8 from rfl, HZ.out]
      exact HP.out
    · have hc1 : (c == 0) = false := beq_eq_false_iff_ne.2 hc
      clear hc
      go_wp2_with fail
      refine (settleCommitWord_at HP.out h0 (by omega) HX.out 0).mono ?_
      rintro e w2 ⟨rfl, hp2, hk2⟩
      have HP2 := Lib.hid hp2
      have HK2 := Lib.hid ((HK.out.mono (l' := [b, gn, gl, gf]) (by simp)).trans' hk2)
      clear hp2 hk2
      go_wp2_with fail
      go_ret
      exact ⟨_, rfl, HP2.out, HK2.out⟩

end Go.Proofs.Ytopljfbgbiipiaa

/-
  Layer 3: the laws PlogArgs, PlogTwice, PlogCommits, walked.
-/
import Derived.Test.YtopljfbgbiipiaaPlI
namespace Go.Proofs.Ytopljfbgbiipiaa
open Go.RowKit

set_option maxHeartbeats 2000000 in
theorem args_at {w : World} {v : Value} {g : Nat} {ps : List (Int × Int)} (h : PReads w v g ps) (n : Nat) (hn : n < 65536) :
    Calls Try.prog 6 #[.int .u16 (n : Int), v] w fun e w' => e = .returned (.bool true) ∧ Below w.heap.size w w' := by
  have HA := Lib.hid awake_at
  obtain ⟨a, cap, rfl, h1, h2⟩ := h.val
  unfold maxLen at h2
  clear h
  obtain ⟨k, hk⟩ : ∃ k : Nat, (n : Int) % 5000 = (k : Int) := ⟨n % 5000, by omega⟩
  have hk5 : k < 5000 := by omega
  by_cases hk3 : k = 3128
  · subst hk3
    have hk' : (n : Int) % 5000 = 3128 := hk
    clear hk hk5
    go_enter Try.func6, Try.ntmps6
    go_wp2_with fail
    refine (HA.out _).mono ?_; rintro e w1 ⟨rfl, hk1⟩
    have HK1 := Lib.hid hk1
    clear hk1
    go_wp2_with fail
    refine (HA.out _).mono ?_; rintro e w2 ⟨rfl, hk2⟩
    have HK2 := Lib.hid (HK1.out.trans hk2 (by simp))
    clear hk2
    go_wp2_with fail
    go_ret
    exact ⟨rfl, HK2.out.below (Nat.le_refl _) (by simp)⟩
  · have hkb : ((k : Int) == 3128) = false := beq_eq_false_iff_ne.2 (by omega)
    by_cases hl : ps.length ≤ 100
    · have hl1 : ¬ (100 : Int) < (ps.length : Int) := by omega
      have HN := Lib.hid (fun wz => new_at wz (k : Int))
      have hnk : newN (k : Int) = k := by unfold newN; omega
      rw [hnk] at HN
      clear hnk
      go_enter Try.func6, Try.ntmps6
      go_wp2_with fail
      refine (HA.out _).mono ?_; rintro e w1 ⟨rfl, hk1⟩
      have HK1 := Lib.hid hk1
      clear hk1
      go_wp2_with fail
      refine (HN.out _).mono ?_
      rintro e w2 ⟨b, gn, gl, gf, rfl, hp, -, hk2⟩
      have HK2 := Lib.hid (HK1.out.trans hk2 (by simp))
      have HP := Lib.hid hp
      have HL : Hid ((List.replicate k (0 : Int)).length ≠ 3128) := by show (List.replicate k (0 : Int)).length ≠ 3128; rw [List.length_replicate]; exact hk3
      clear hp hk2
      go_wp2_with fail
      refine (standing_arg HP.out HL.out).mono ?_; rintro e w' ⟨rfl, rfl⟩
      go_wp2_with fail
      refine (commit_arg HP.out HL.out _).mono ?_; rintro e w' ⟨rfl, rfl⟩
      go_wp2_with fail
      refine (replay_arg HP.out HL.out).mono ?_; rintro e w' ⟨rfl, rfl⟩
      go_wp2_with fail
      refine (deeds_at HP.out).mono ?_; rintro e w' ⟨rfl, rfl⟩
      go_wp2_with fail
      go_ret
      exact ⟨rfl, HK2.out.below (Nat.le_refl _) (by simp)⟩
    · have hl1 : (100 : Int) < (ps.length : Int) := by omega
      go_enter Try.func6, Try.ntmps6
      go_wp2_with fail
      refine (HA.out _).mono ?_; rintro e w1 ⟨rfl, hk1⟩
      have HK1 := Lib.hid hk1
      clear hk1
      go_wp2_with fail
      refine (HA.out _).mono ?_; rintro e w2 ⟨rfl, hk2⟩
      have HK2 := Lib.hid (HK1.out.trans hk2 (by simp))
      clear hk2
      go_wp2_with fail
      go_ret
      exact ⟨rfl, HK2.out.below (Nat.le_refl _) (by simp)⟩

theorem PReads.apart {w : World} {v : Value} {g : Nat} {ps : List (Int × Int)} (h : PReads w v g ps) {l : List Nat} (hl : ∀ x, x ∈ l → w.heap.size ≤ x) : ps.length ≠ 0 → g ∉ l := fun h0 hm => by
  obtain ⟨a, cap, h1, h2, h3, h4⟩ := h
  have := (h4 h0).1
  have := hl g hm
  omega

set_option maxHeartbeats 1000000 in
theorem standing_zero {w : World} {b gn gl gf : Nat} {xs : List Int} {d : Int} (h : PmAt w b gn gl gf (calm xs d)) (hx : xs.length = 3128) (h8 : xs.getD 8 0 = 0) :
    Calls Try.prog 11 #[.pointer (some ⟨b, 0, none⟩)] w fun e w' => e = .returned (.tuple #[.slice none 0 0, .bool false, .int .i64 0]) ∧ w = w' := by
  have HL := Lib.hid (len_calm h hx)
  have HLO := Lib.hid (load_calm h 8 (by omega) (by rw [hx]; omega))
  rw [show (8 : Int).toNat = 8 from rfl, h8] at HLO
  clear h hx h8
  go_enter Try.func11, Try.ntmps11
  go_wp2_with fail
  refine HL.out.mono ?_; rintro e w' ⟨rfl, rfl⟩
  go_wp2_with fail
  refine HLO.out.mono ?_; rintro e w' ⟨rfl, rfl⟩
  go_wp2_with fail
  go_ret3
  exact ⟨rfl, rfl⟩

theorem dirtyN_self : ∀ l : List Int, dirtyN l l = 0
  | [] => rfl
  | a :: l => by simp [dirtyN, dirtyN_self l]

theorem dirty_calm {w : World} {b gn gl gf : Nat} {xs : List Int} {d : Int} (h : PmAt w b gn gl gf (calm xs d)) :
    Calls Try.prog 14 #[.pointer (some ⟨b, 0, none⟩)] w fun e w' => e = .returned (.int .i64 0) ∧ ∃ n, w' = w.drewN n := by
  have := Dirty_at h
  rw [show (calm xs d).dirtyN = 0 from dirtyN_self xs] at this
  exact this

/-- make([]uint64, 3128), noughts. -/
theorem make_zeros (w : World) : ∃ mc, (Instr.makeSlice 32 (.int .i64 3128) (.int .i64 3128)).run Try.prog w = .ok (.slice (some ⟨w.heap.size, 0, none⟩) 3128 3128) (w.alloc (.cells mc 40)) ∧
    Owns (w.alloc (.cells mc 40)) (.slice (some ⟨w.heap.size, 0, none⟩) 3128 3128) w.heap.size 40 1 3128 (u64s zerosN) :=
  ⟨_, make_u64 3128 (by omega) 3128 rfl 3128 (.inr rfl) w, owns_words w 3128 (by omega)⟩

set_option maxRecDepth 100000 in
set_option maxHeartbeats 4000000 in
theorem twice_at {w : World} {va vb : Value} {ga gb : Nat} {pa pb : List (Int × Int)} (ha : PReads w va ga pa) (hb : PReads w vb gb pb) (oka : okP pa) (okb : okP pb) :
    Calls Try.prog 3 #[va, vb] w fun e w' => e = .returned (.bool true) ∧ Below w.heap.size w w' := by
  have HW := Lib.hid awake_at
  have HA := Lib.hid ha
  have HB := Lib.hid hb
  have OKA := Lib.hid oka
  have OKB := Lib.hid okb
  obtain ⟨aa, ca, rfl, a1, a2⟩ := ha.val
  obtain ⟨ab, cb, rfl, b1, b2⟩ := hb.val
  unfold maxLen at a2 b2
  clear ha hb oka okb
  by_cases hla : pa.length ≤ 60
  · have hla1 : ¬ (60 : Int) < (pa.length : Int) := by omega
    by_cases hlb : pb.length ≤ 60
    · have hlb1 : ¬ (60 : Int) < (pb.length : Int) := by omega
      go_enter Try.func3, Try.ntmps3
      go_wp2_with fail
      refine (HW.out _).mono ?_; rintro e w1 ⟨rfl, hk1⟩
      have HK1 := Lib.hid hk1
      clear hk1
      go_wp2_with fail
      refine (places_at (HA.out.keep HK1.out (by simp)) OKA.out (by omega)).mono ?_
      rintro e w2 ⟨v2, g2, rfl, hr2, -, hk2⟩
      obtain ⟨aa2, ca2, rfl, -, -⟩ := hr2.val
      have HR2 := Lib.hid hr2
      have HK2 := Lib.hid (HK1.out.trans hk2 (by simp))
      clear hr2 hk2
      go_wp2_with fail
      refine (places_at (HB.out.keep HK2.out (by simp)) OKB.out (by omega)).mono ?_
      rintro e w3 ⟨v3, g3, rfl, hr3, -, hk3⟩
      obtain ⟨ab2, cb2, rfl, -, -⟩ := hr3.val
      have HR3 := Lib.hid hr3
      have HR2 := Lib.hid (HR2.out.keep hk3 (by simp))
      have HK3 := Lib.hid (HK2.out.trans hk3 (by simp))
      clear hr3 hk3
      have PA : Hid (okP (placesN pa) ∧ goodP (placesN pa) = true ∧ (placesN pa).length ≤ 60) := ⟨placesN_ok OKA.out, placesN_good _, by rw [placesN_len]; exact hla⟩
      have PB : Hid (okP (placesN pb) ∧ goodP (placesN pb) = true ∧ (placesN pb).length ≤ 60) := ⟨placesN_ok OKB.out, placesN_good _, by rw [placesN_len]; exact hlb⟩
      generalize placesN pa = qa at *
      generalize placesN pb = qb at *
      go_wp2_with fail
      refine (new3128_at _).mono ?_
      rintro e w4 ⟨b, gn, gl, gf, rfl, hp4, hlo, hk4⟩
      have HLO : Hid (∀ x, x ∈ [b, gn, gl, gf] → w.heap.size ≤ x) := fun x hx => Nat.le_trans HK3.out.size (hlo x hx)
      have HGA := Lib.hid (HR2.out.apart hlo)
      have HGB := Lib.hid (HR3.out.apart hlo)
      have HR2 := Lib.hid (HR2.out.keep hk4 (by simp))
      have HR3 := Lib.hid (HR3.out.keep hk4 (by simp))
      have HK4 := Lib.hid (HK3.out.trans hk4 (by simp))
      have HP4 := Lib.hid hp4
      clear hp4 hlo hk4
      have HZ := Lib.hid zerosN_len
      have HZ8 := Lib.hid (zerosN_get 8)
      go_wp2_with fail
      have hda := deedsN_le qa
      have hqa := PA.out.2.2
      refine (commit_ok HP4.out (by omega) (by omega) HZ.out HR2.out PA.out.1 PA.out.2.1 (by omega) HGA.out).mono ?_
      rintro e w5 ⟨rfl, hp5, hk5⟩
      have HR2 := Lib.hid (HR2.out.keep hk5 HGA.out)
      have HR3 := Lib.hid (HR3.out.keep hk5 HGB.out)
      have HK5 := Lib.hid (keeps_new HK4.out hk5 HLO.out)
      have HP5 := Lib.hid hp5
      have HX5 : Hid ((commitX zerosN qa).length = 3128) := by show (commitX zerosN qa).length = 3128; rw [commitX_len, HZ.out]
      have H85 : Hid ((commitX zerosN qa).getD 8 0 = 0) := commitX_8 _ _ (by rw [HZ.out]; omega) HZ8.out
      have HA5 : Hid (AgreeP (putAll zerosN qa) (commitX zerosN qa)) := commitX_agree _ _ (by omega)
      clear hp5 hk5
      go_wp2_with fail
      have hqb := PB.out.2.2
      refine (commit_ok HP5.out (by omega) (by omega) HX5.out HR3.out PB.out.1 PB.out.2.1 (by omega) HGB.out).mono ?_
      rintro e w6 ⟨rfl, hp6, hk6⟩
      have HR2 := Lib.hid (HR2.out.keep hk6 HGA.out)
      have HR3 := Lib.hid (HR3.out.keep hk6 HGB.out)
      have HK6 := Lib.hid (keeps_new HK5.out hk6 HLO.out)
      have HP6 := Lib.hid hp6
      have HX6 : Hid ((commitX (commitX zerosN qa) qb).length = 3128) := by show (commitX (commitX zerosN qa) qb).length = 3128; rw [commitX_len, HX5.out]
      have H86 : Hid ((commitX (commitX zerosN qa) qb).getD 8 0 = 0) := commitX_8 _ _ (by rw [HX5.out]; omega) H85.out
      have HA6 : Hid (AgreeP (putAll (putAll zerosN qa) qb) (commitX (commitX zerosN qa) qb)) := AgreeP.trans (AgreeP.put qb HA5.out) (commitX_agree _ _ (by omega))
      clear hp6 hk6 HP4 HP5
      generalize commitX (commitX zerosN qa) qb = xs at *
      generalize (0 : Int) + (deedsN qa : Nat) + (deedsN qb : Nat) = d6 at *
      go_wp2_with fail
      refine (standing_zero HP6.out HX6.out H86.out).mono ?_; rintro e w' ⟨rfl, rfl⟩
      obtain ⟨mc, hmk, hmo⟩ := make_zeros w6
      have HMO := Lib.hid hmo
      clear hmo
      go_wp2_with fail
      have hk7 : Keeps [] w6 (w6.alloc (.cells mc 40)) := (Keeps.refl _ _).alloc _
      refine (after_at HMO.out.reads HZ.out (HR2.out.keep hk7 (by simp)) (goodP_in PA.out.2.1) (by omega)).mono ?_
      rintro e w7 ⟨v7, g7, rfl, hr7, hg7, hk8⟩
      obtain ⟨a7, c7, rfl, -, -, -⟩ := u64s_cell hr7
      have HK7 := Lib.hid (hk7.trans hk8 (by simp))
      have HR7 := Lib.hid hr7
      clear hr7 hk7 hk8
      go_wp2_with fail
      refine (after_at HR7.out (by rw [putAll_len]; exact HZ.out) (HR3.out.keep HK7.out (by simp)) (goodP_in PB.out.2.1) (by omega)).mono ?_
      rintro e w8 ⟨v8, g8, rfl, hr8, hg8, hk8⟩
      obtain ⟨a8, c8, rfl, -, -, -⟩ := u64s_cell hr8
      have HK8 := Lib.hid (HK7.out.trans hk8 (by simp))
      have HR8 := Lib.hid hr8
      have HP8 := Lib.hid (HP6.out.keep HK8.out (by simp) (by simp))
      clear hr8 hk8
      go_wp2_with fail
      refine (same_at HP8.out HX6.out HR8.out HA6.out H86.out).mono ?_; rintro e w' ⟨rfl, rfl⟩
      go_wp2_with fail
      refine (dirty_calm HP8.out).mono ?_; rintro e w9 ⟨rfl, m, rfl⟩
      go_wp2_with fail
      go_ret
      exact ⟨rfl, ((HK6.out.trans HK8.out (by simp)).drewN _).below (Nat.le_refl _) (by simp)⟩
    · have hlb1 : (60 : Int) < (pb.length : Int) := by omega
      go_enter Try.func3, Try.ntmps3
      go_wp2_with fail
      refine (HW.out _).mono ?_; rintro e w1 ⟨rfl, hk1⟩
      have HK1 := Lib.hid hk1
      clear hk1
      go_wp2_with fail
      refine (HW.out _).mono ?_; rintro e w2 ⟨rfl, hk2⟩
      have HK2 := Lib.hid (HK1.out.trans hk2 (by simp))
      clear hk2
      go_wp2_with fail
      go_ret
      exact ⟨rfl, HK2.out.below (Nat.le_refl _) (by simp)⟩
  · have hla1 : (60 : Int) < (pa.length : Int) := by omega
    go_enter Try.func3, Try.ntmps3
    go_wp2_with fail
    refine (HW.out _).mono ?_; rintro e w1 ⟨rfl, hk1⟩
    have HK1 := Lib.hid hk1
    clear hk1
    go_wp2_with fail
    refine (HW.out _).mono ?_; rintro e w2 ⟨rfl, hk2⟩
    have HK2 := Lib.hid (HK1.out.trans hk2 (by simp))
    clear hk2
    go_wp2_with fail
    go_ret
    exact ⟨rfl, HK2.out.below (Nat.le_refl _) (by simp)⟩

end Go.Proofs.Ytopljfbgbiipiaa

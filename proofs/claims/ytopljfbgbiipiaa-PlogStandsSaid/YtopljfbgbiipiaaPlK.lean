/-
  Layer 3's reference: Stands.
-/
import Derived.Test.YtopljfbgbiipiaaPlJ
import Derived.Deep.RegionWith
import Derived.IntWalk
namespace Go.Proofs.Ytopljfbgbiipiaa
open Go.RowKit

theorem okP_pairsN {ws : List Int} {m : Nat} (h : u64P ws) (hs : ∀ j, j < m → ws.getD (2 * j) 0 < 3128) : okP (pairsN ws m) := by
  intro p hp
  simp only [pairsN, List.mem_map, List.mem_range] at hp
  obtain ⟨j, hj, rfl⟩ := hp
  have h1 := u64P_get h (2 * j)
  have h2 := u64P_get h (2 * j + 1)
  have h3 := hs j hj
  exact ⟨⟨by simp only; omega, by simp only; omega⟩, h2⟩

theorem Owns.preads' {w : World} {v : Value} {g T n : Nat} {ps : List (Int × Int)} (h : Owns w v g T 2 n (pcells ps)) (hn : n = ps.length) : PReads w v g ps := by
  subst hn
  exact h.preads

set_option maxRecDepth 100000 in
set_option maxHeartbeats 4000000 in
theorem refStands_at {w : World} {v : Value} {g : Nat} {xs : List Int} (h : Reads w v g (u64s xs)) (hx : xs.length = 3128) (hu : u64P xs) :
    Calls Try.prog 21 #[v] w (RStood w (standN xs)) := by
  obtain ⟨i0, hi, hz0, hz1, hz2⟩ := info_parts Try.info_pair
  obtain ⟨a, cap, rfl, h1, h2, HC⟩ := u64s_cell h
  unfold maxLen at h2
  obtain ⟨hg, off, rfl, c8⟩ := HC.out 8 (by omega)
  obtain ⟨n, hn⟩ : ∃ n : Nat, cntN xs = n := ⟨_, rfl⟩
  obtain ⟨b0, b1⟩ := u64P_get hu 8
  have hc : xs.getD 8 0 / 4294967296 = (n : Int) := by unfold cntN at hn; omega
  have HN := Lib.hid hn
  have HX := Lib.hid hx
  have HU := Lib.hid hu
  have HC8 := Lib.hid c8
  rw [hx] at h1 ⊢
  obtain ⟨c, hcc⟩ : ∃ c, xs.getD 8 0 = c := ⟨_, rfl⟩
  rw [hcc] at c8 hc b0 b1
  have HCC := Lib.hid hcc
  clear h hn hx hu hcc
  by_cases h3 : n < 1
  · have HM : Hid (RStood w (standN xs) (.returned (.tuple #[.slice none 0 0, .bool false])) w) := by
      refine .inl ⟨?_, rfl, Keeps.refl _ _⟩
      unfold standN
      rw [HN.out, if_neg (by omega)]
    go_enter Try.func21, Try.ntmps21
    go_wp2_with fail
    go_ret2
    exact HM.out
  · by_cases h4 : 400 < n
    · have HM : Hid (RStood w (standN xs) (.returned (.tuple #[.slice none 0 0, .bool false])) w) := by
        refine .inl ⟨?_, rfl, Keeps.refl _ _⟩
        unfold standN
        rw [HN.out, if_neg (by omega)]
      go_enter Try.func21, Try.ntmps21
      go_wp2_with fail
      go_ret2
      exact HM.out
    · go_enter Try.func21, Try.ntmps21
      go_wp2_with fail
      go_loopg [5, 6] n (fun gh s5 s6 wx => ∃ k : Nat, k + gh = n ∧ s6 = .int .i64 (k : Int) ∧
        Hid (wx.ownsRow w.heap.size 43 2 s5 k (pcells (pairsN (segN xs (2 * n)) k)) ∧ (∀ j, j < k → (segN xs (2 * n)).getD (2 * j) 0 < 3128) ∧ Keeps [] w wx))
      case atStart => exact ⟨0, by omega, rfl, ⟨rfl, .inl ⟨rfl, rfl⟩⟩, by intro j hj; omega, Keeps.refl _ _⟩
      case round =>
        obtain ⟨k, hk, rfl, HR⟩ := hrel
        obtain ⟨hown, hsm, hkp⟩ := HR.out
        cases gk with
        | zero =>
          obtain rfl : k = n := by omega
          have hlt : ¬ (k : Int) < (k : Int) := by omega
          obtain ⟨g', ho, hgb⟩ := Owns.of_row hown
          have HGE := Lib.hid (hgb (by omega)).1
          clear hgb
          have hpr : PReads wr u5 g' (pairsN (segN xs (2 * k)) k) := ho.preads' (pairsN_len _ _).symm
          have hw := wordsN_pairsN (ws := segN xs (2 * k)) (m := k) (segN_len _ _) (fun j hj => by
            have h5 := hsm j hj
            have h6 := u64P_get (segN_u64 HU.out (2 * k)) (2 * j)
            omega)
          have hokp := okP_pairsN (segN_u64 HU.out (2 * k)) hsm
          have HGO := Lib.hid (fun (wz : World) (hz : Keeps [] wr wz) => refGood_at (hpr.keep hz (by simp)) (by rw [pairsN_len]; omega))
          have HMA := fun (wz : World) (hz : Keeps [] wr wz) => refMark_at (hpr.keep hz (by simp)) hokp (by rw [pairsN_len]; omega)
          rw [hw] at HMA
          have HMA := Lib.hid HMA
          have hgp : goodB (pairsN (segN xs (2 * k)) k) = placesB (segN xs (2 * k)) k := by
            rw [goodB, pairsN_goodP, pairsN_len, decide_eq_true (by omega), Bool.and_true]
          rw [hgp] at HGO
          have HPR := Lib.hid hpr
          have HKP := Lib.hid hkp
          have HCZ : Hid (∀ wz, Keeps [] wr wz → wz.cell? ⟨g, off + 8, none⟩ = some (.int .u64 c)) := fun wz hz => by
            rw [World.cell?_of_block (w := w) (a := ⟨g, off + 8, none⟩) ((hkp.trans hz (by simp)).block g hg (by simp)), HC8.out, HCC.out]
          have HST : Hid (standN xs = if c = markN (segN xs (2 * k)) ∧ placesB (segN xs (2 * k)) k = true then some (pairsN (segN xs (2 * k)) k) else none) := by
            show standN xs = _
            unfold standN
            rw [HN.out, HCC.out]
            have e1 : 1 ≤ k := by omega
            have e2 : k ≤ 400 := by omega
            simp only [e1, e2, true_and]
          generalize pairsN (segN xs (2 * k)) k = qs at *
          generalize markN (segN xs (2 * k)) = mk at *
          generalize placesB (segN xs (2 * k)) k = pb at *
          clear hpr hw hokp hgp hown hsm hkp HR ho c8
          cases pb
          · rw [if_neg (by simp)] at HST
            have HGQ : Hid (∀ m, Calls Try.prog 15 #[u5] (wr.drewN m) fun e w' => e = .returned (.bool false) ∧ w' = wr.drewN m) := fun m =>
              (HGO.out _ ((Keeps.refl _ _).drewN m)).mono fun _ _ ⟨he, hw⟩ => ⟨he, hw.symm⟩
            go_wp2_with fail
            go_quiet ((go_at_call 15; exact Calls.quiet_of_same (HGQ.out _)))
            go_wp2_with fail
            go_ret2
            exact .inl ⟨HST.out, rfl, HKP.out.drewN _⟩
          · have c8 := HCZ.out wr (Keeps.refl _ _)
            by_cases hm : c = mk
            · rw [if_pos ⟨hm, rfl⟩] at HST
              subst hm
              go_wp2_with fail
              go_region_held3 (fun w' => w'.cell? ⟨g, off + 8, none⟩ = some (.int .u64 c)) (first | go_keep | exact HC2.out) (first | (go_at_call 15; refine (HGO.out _ ?hk).mono ?_; (case hk => (repeat (first | exact Keeps.refl _ _ | assumption | refine Keeps.drew ?_))); rintro e w' ⟨rfl, rfl⟩) | (go_at_call 19; refine (HMA.out _ ?hk2).mono ?_; (case hk2 => (repeat (first | exact Keeps.refl _ _ | assumption | refine Keeps.drew ?_))); rintro e w2 ⟨rfl, hk2⟩; have HK2 := Lib.hid ((Keeps.refl [] wr).drew.trans hk2 (by simp)); have HC2 := Lib.hid (HCZ.out w2 HK2.out); clear hk2))
              go_wp2_with fail
              go_ret2
              exact .inr ⟨qs, u5, g', HST.out, rfl, HPR.out.keep HK2.out (by simp), HGE.out, HKP.out.trans HK2.out (by simp)⟩
            · rw [if_neg (fun e => hm e.1)] at HST
              have hm1 : (mk != c) = true := by simpa [bne_iff_ne] using fun e : mk = c => hm e.symm
              go_wp2_with fail
              go_region_held3 (fun w' => w'.cell? ⟨g, off + 8, none⟩ = some (.int .u64 c)) (first | go_keep | exact HC2.out) (first | (go_at_call 15; refine (HGO.out _ ?hk).mono ?_; (case hk => (repeat (first | exact Keeps.refl _ _ | assumption | refine Keeps.drew ?_))); rintro e w' ⟨rfl, rfl⟩) | (go_at_call 19; refine (HMA.out _ ?hk2).mono ?_; (case hk2 => (repeat (first | exact Keeps.refl _ _ | assumption | refine Keeps.drew ?_))); rintro e w2 ⟨rfl, hk2⟩; have HK2 := Lib.hid ((Keeps.refl [] wr).drew.trans hk2 (by simp)); have HC2 := Lib.hid (HCZ.out w2 HK2.out); clear hk2))
              go_wp2_with fail
              go_ret2
              exact .inl ⟨HST.out, rfl, HKP.out.trans HK2.out (by simp)⟩
        | succ gg =>
          have hlt : (k : Int) < (n : Int) := by omega
          obtain ⟨-, off', ho', d0⟩ := HC.out (9 + 2 * k) (by rw [HX.out]; omega)
          cases ho'
          obtain ⟨-, off', ho', d1⟩ := HC.out (10 + 2 * k) (by rw [HX.out]; omega)
          cases ho'
          have e0 := (World.cell?_of_block (w := w) (a := ⟨g, off + (9 + 2 * k), none⟩) (hkp.block g hg (by simp))).trans d0
          have e1 := (World.cell?_of_block (w := w) (a := ⟨g, off + (10 + 2 * k), none⟩) (hkp.block g hg (by simp))).trans d1
          have s0 := segN_get xs (2 * n) (2 * k) (by omega)
          have s1 := segN_get xs (2 * n) (2 * k + 1) (by omega)
          rw [show 9 + (2 * k + 1) = 10 + 2 * k by omega] at s1
          have HW := pairsN_succ (segN xs (2 * n)) k
          rw [s0, s1] at HW
          have HW := Lib.hid HW
          have HS0 := Lib.hid s0
          have hb0 := u64P_get HU.out (9 + 2 * k)
          have HBAD := Lib.hid (fun hb => standN_bad (xs := xs) (k := k) (by rw [HN.out]; omega) hb)
          have ag : u5.ownBlock ≠ some g := fun e => by have := ownsRow_block hown g e; omega
          have hws := hkp.size
          have HOWN := Lib.hid hown
          have HSM := Lib.hid hsm
          have HKP := Lib.hid hkp
          clear hown hsm hkp HR d0 d1 s0 s1
          generalize xs.getD (9 + 2 * k) 0 = x at *
          generalize xs.getD (10 + 2 * k) 0 = y at *
          have i1 : (0 : Int) ≤ 9 + 2 * (k : Int) := by omega
          have i2 : 9 + 2 * (k : Int) < 3128 := by omega
          have i3 : (0 : Int) ≤ 10 + 2 * (k : Int) := by omega
          have i4 : 10 + 2 * (k : Int) < 3128 := by omega
          by_cases hxx : 3128 ≤ x
          · have HM : Hid (RStood w (standN xs) (.returned (.tuple #[.slice none 0 0, .bool false])) wr) := .inl ⟨HBAD.out hxx, rfl, HKP.out⟩
            go_wp2_with fail
            go_ret2
            exact HM.out
          · have HB1 : Hid (k + 1 ≤ maxLen) := by show k + 1 ≤ maxLen; unfold maxLen; omega
            have HB2 : Hid ((k + 1) * 16 ≤ 140737488355328) := by show (k + 1) * 16 ≤ 140737488355328; omega
            have HB3 : Hid (∀ o, w.heap.size ≤ ((wr.alloc o).drew).heap.size) := fun o => Nat.le_trans hws ((Keeps.refl [] wr).alloc o).drew.size
            have HB4 : Hid (∀ o, g < ((wr.alloc o).drew).heap.size) := fun o => Nat.lt_of_lt_of_le (Nat.lt_of_lt_of_le hg hws) ((Keeps.refl [] wr).alloc o).drew.size
            go_wp2_with fail
            have j1 : IntKind.i64.wrap (2 * (k : Int)) = 2 * (k : Int) := IntWalk.i64_in _ (by omega)
            have j2 : IntKind.i64.wrap (9 + 2 * (k : Int)) = 9 + 2 * (k : Int) := IntWalk.i64_in _ (by omega)
            have j3 : IntKind.i64.wrap (10 + 2 * (k : Int)) = 10 + 2 * (k : Int) := IntWalk.i64_in _ (by omega)
            have j4 : (9 + 2 * (k : Int)).toNat = 9 + 2 * k := by omega
            have j5 : (10 + 2 * (k : Int)).toNat = 10 + 2 * k := by omega
            have j6 : IntKind.i64.wrap x = x := IntWalk.i64_in _ (by omega)
            go_region_held3 (fun w' => w'.cell? ⟨g, off + (9 + 2 * k), none⟩ = some (.int .u64 x) ∧ w'.cell? ⟨g, off + (10 + 2 * k), none⟩ = some (.int .u64 y)) (first | go_keep | (go_split_ands; refine ⟨?_, ?_⟩ <;> (rw [hgrow.cell_far _ (HB4.out _) (Ne.symm ag)]; assumption))) ((refine step_append_lies _ (by rfl) _ _ _ (by rfl) w.heap.size 43 i0 _ 2 16 Try.underlying22 hi hz0 hz1 hz2 rfl (by decide) u5 k _ (by rfl) ((HOWN.out.alloc _).drew) ⟨wr.heap.size, 0, none⟩ 1 1 [.int .i64 x, .int .u64 y] (by rfl) (by rfl) (new_cells wr [_, _] _ _ rfl) (by simp [Value.oneCell']) (by decide) HB1.out HB2.out (HB3.out _) (wr.heap.size + 1) (by simp) ?_; intro gg2 cap2 w1 hown1 hgrow hat hlt2))
            have HO1 := Lib.hid hown1
            have HK1 := Lib.hid ((HKP.out.alloc _).drew.grown hgrow (ownsRow_block HOWN.out))
            clear hown1 hgrow j1 j2 j3 j4 j5 j6
            go_wp2_with fail
            go_roundg gg
            case measure => omega
            case rel =>
              refine ⟨k + 1, by omega, by go_num, ?_, ?_, HK1.out⟩
              · rw [HW.out, pcells_append]
                exact HO1.out
              · intro j hj
                by_cases e : j = k
                · subst e
                  rw [HS0.out]
                  omega
                · exact HSM.out j (by omega)

end Go.Proofs.Ytopljfbgbiipiaa

/-
  Layer 2: PackWords, walked.
-/
import Derived.Test.YtjbecchapkjnpaaPkL1
import Derived.Deep.RegionHeld3
namespace Go.Proofs.Ytjbecchapkjnpaa
open Go.RowKit

theorem join8_at (W : Nat) (hW : W < 18446744073709551616) (w : World) :
    Calls Try.prog 15 #[.agg #[.int .u8 (byt W 0 : Nat), .int .u8 (byt W 1 : Nat), .int .u8 (byt W 2 : Nat), .int .u8 (byt W 3 : Nat), .int .u8 (byt W 4 : Nat), .int .u8 (byt W 5 : Nat), .int .u8 (byt W 6 : Nat), .int .u8 (byt W 7 : Nat)]] w
      fun e w' => e = .returned (.int .u64 (W : Int)) ∧ Keeps [] w w' := by
  have := join_at (byts W) (byts_len W) (byts_lt W) w
  rw [joinN_byts hW] at this
  exact this

/-- The eight bytes of W lie at block b. -/
def B8 (w : World) (b W : Nat) : Prop := b < w.heap.size ∧ ∀ j, j < 8 → w.cell? ⟨b, j, none⟩ = some (.int .u8 (byt W j : Nat))

theorem B8.keep {w w' : World} {b W : Nat} (h : B8 w b W) (hk : Keeps [] w w') : B8 w' b W :=
  ⟨Nat.lt_of_lt_of_le h.1 hk.size, fun j hj => by rw [World.cell?_of_block (w := w) (hk.block b h.1 (by simp))]; exact h.2 j hj⟩

theorem B8.of_blk {w : World} {b W : Nat} (h : Blk w b (u8s (byts W)).toArray 34) : B8 w b W :=
  ⟨h.lt, fun j hj => by
    rw [h.cell, ← byts_get W j hj]
    simpa using u8s_get (l := byts W) (j := j) (by rw [byts_len]; omega)⟩

theorem B8.drew {w : World} {b W : Nat} (h : B8 w b W) : B8 w.drew b W := h

theorem B8.nine {w' : World} {b W q : Nat} (h : B8 w' b W) (hq : q < 8) : w'.cell? ⟨b, 0, none⟩ = some (.int .u8 (byt W 0 : Nat)) ∧ w'.cell? ⟨b, 1, none⟩ = some (.int .u8 (byt W 1 : Nat)) ∧ w'.cell? ⟨b, 2, none⟩ = some (.int .u8 (byt W 2 : Nat)) ∧ w'.cell? ⟨b, 3, none⟩ = some (.int .u8 (byt W 3 : Nat)) ∧ w'.cell? ⟨b, 4, none⟩ = some (.int .u8 (byt W 4 : Nat)) ∧ w'.cell? ⟨b, 5, none⟩ = some (.int .u8 (byt W 5 : Nat)) ∧ w'.cell? ⟨b, 6, none⟩ = some (.int .u8 (byt W 6 : Nat)) ∧ w'.cell? ⟨b, 7, none⟩ = some (.int .u8 (byt W 7 : Nat)) ∧ w'.cell? ⟨b, q, none⟩ = some (.int .u8 (byt W q : Nat)) :=
  ⟨h.2 0 (by omega), h.2 1 (by omega), h.2 2 (by omega), h.2 3 (by omega), h.2 4 (by omega), h.2 5 (by omega), h.2 6 (by omega), h.2 7 (by omega), h.2 q hq⟩

theorem nameN_some {W : Nat} {l : List Nat} (h : nameN W = some l) : goodN l = true ∧ l.length ≤ 7 ∧ wordN l = W ∧ ∀ c ∈ l, c < 256 := by
  unfold nameN at h
  split at h
  · rename_i hc
    cases h
    exact ⟨hc.2.1, (goodN_len hc.2.1).2, hc.2.2, take_lt (byts_lt W) _⟩
  · cases h

theorem nameN_none {W : Nat} (h : nameN W = none) : byt W 7 ≤ 7 → goodN ((byts W).take (byt W 7)) = true → wordN ((byts W).take (byt W 7)) ≠ W := by
  intro h7 hg hw
  unfold nameN at h
  rw [if_pos ⟨h7, hg, hw⟩] at h
  cases h

theorem conv_one (w : World) (c : Nat) (hc : c < 256) : (convert 39 9 (.slice (some ⟨w.heap.size, 0, none⟩) 1 1)).run Try.prog (w.alloc (.cells #[.int .u8 (c : Int)] 5)) = .ok (.string (strN [c])) (w.alloc (.cells #[.int .u8 (c : Int)] 5)) :=
  run_convert_bytes_back (P := Try.prog) _ 39 9 5 ⟨w.heap.size, 0, none⟩ 1 [UInt8.ofNat c] Try.underlying39 Try.underlying5 Try.underlying9 fun j hj => by
    obtain rfl : j = 0 := by simpa using hj
    have := (Blk.new w #[.int .u8 (c : Int)] 5).cell 0
    simp [Addr.add, this, Nat.mod_eq_of_lt hc]

theorem str_snoc (W k : Nat) (hk : k < 8) : strN ((byts W).take (k + 1)) = strN ((byts W).take k) ++ strN [byt W k] := by
  rw [List.take_succ_eq_append_getElem (by rw [byts_len]; exact hk)]
  apply ByteArray.ext
  simp [strN, byts]

set_option maxHeartbeats 2000000 in
theorem words_some (W at_ : Nat) (hW : W < 18446744073709551616) (l : List Nat) (hnm : nameN W = some l) (w : World) :
    Calls Try.prog 4 #[.int .u64 (W : Int), .int .u8 (at_ : Int)] w fun e w' => e = .returned (.bool true) ∧ Below w.heap.size w w' := by
  have HA := Lib.hid awake2_at
  have HNM := name_at W w
  rw [hnm, show (some l).getD [] = l from rfl, show (some l).isSome = true from rfl] at HNM
  have HNM := Lib.hid HNM
  obtain ⟨g1, g2, g3, g4⟩ := nameN_some hnm
  have HG := refGood_at (strN l) (by rw [strN_size]; omega)
  rw [bl_strN g4, g1] at HG
  have HG := Lib.hid HG
  have HV := refWord_at (strN l) (by rw [strN_size]; exact g2)
  rw [bl_strN g4, g3] at HV
  have HV := Lib.hid HV
  clear g1 g2 g3 g4 hnm
  have HJ := Lib.hid (join8_at W hW)
  obtain ⟨q, hq⟩ : ∃ q, q = at_ % 8 := ⟨_, rfl⟩
  have hq8 : q < 8 := by omega
  have m3 : (at_ : Int).tmod 8 = (q : Int) := by rw [hq]; rfl
  have m4 : (at_ : Int) % 8 = (q : Int) := by rw [hq]; rfl
  have HR := Lib.hid (refByte_at W q hW (by omega))
  have hq0 : (0 : Int) ≤ (q : Int) := by omega
  have hq9 : (q : Int) < 8 := by omega
  clear hq
  go_enter Try.func4, Try.ntmps4
  go_wp2_with fail
  refine HNM.out.mono ?_; rintro e w1 ⟨rfl, hk1⟩
  have HK1 := Lib.hid hk1
  clear hk1
  go_wp2_with fail
  refine (bytes_at W w1).mono ?_; rintro e w2 ⟨rfl, hk2⟩
  obtain ⟨w3, hs3, hb3, hk3⟩ := store_bytes (l := List.replicate 8 0) (by simp) (byts_len W) (Blk.new w2 (u8s (List.replicate 8 0)).toArray 34)
  have HS3 := Lib.hid hs3
  have HK3 : Hid (Keeps [] w w3) := (HK1.out.trans hk2 (by simp)).trans (((Keeps.refl [] w2).alloc _).trans hk3 (by simp)) (by simp)
  have HB3 := Lib.hid (B8.of_blk hb3)
  clear hs3 hb3 hk3 hk2 HK1
  go_wp2_with ((with_reducible show wpList _ _ _ (⟨_, .store 34 (.tmp 7) (.tmp 18), _, _, _, _⟩ :: _) _ _); refine wpList_store_any rfl 34 (.tmp 7) (.tmp 18) rfl _ rfl _ rfl _ HS3.out ?_)
  clear HS3
  generalize w2.heap.size = b at *
  go_region_held3 (fun w' => w'.cell? ⟨b, 0, none⟩ = some (.int .u8 (byt W 0 : Nat)) ∧ w'.cell? ⟨b, 1, none⟩ = some (.int .u8 (byt W 1 : Nat)) ∧ w'.cell? ⟨b, 2, none⟩ = some (.int .u8 (byt W 2 : Nat)) ∧ w'.cell? ⟨b, 3, none⟩ = some (.int .u8 (byt W 3 : Nat)) ∧ w'.cell? ⟨b, 4, none⟩ = some (.int .u8 (byt W 4 : Nat)) ∧ w'.cell? ⟨b, 5, none⟩ = some (.int .u8 (byt W 5 : Nat)) ∧ w'.cell? ⟨b, 6, none⟩ = some (.int .u8 (byt W 6 : Nat)) ∧ w'.cell? ⟨b, 7, none⟩ = some (.int .u8 (byt W 7 : Nat)) ∧ w'.cell? ⟨b, q, none⟩ = some (.int .u8 (byt W q : Nat))) (first | exact HB3.out.drew.nine hq8 | exact HB5.out.nine hq8 | exact HB4.out.nine hq8 | go_keep) (first | (go_at_call 6; refine (HA.out _).mono ?_; rintro e w4 ⟨rfl, hk4⟩; (have HK4 := Lib.hid (HK3.out.drew.trans hk4 (by simp))); (have HB4 := Lib.hid (HB3.out.drew.keep hk4)); clear hk4) | (go_at_call 15; refine (HJ.out _).mono ?_; rintro e w5 ⟨rfl, hk5⟩; (have HK5 := Lib.hid (HK4.out.trans hk5 (by simp))); (have HB5 := Lib.hid (HB4.out.keep hk5)); clear hk5) | (go_at_call 16; refine (HR.out _).mono ?_; rintro e w' ⟨rfl, rfl⟩))
  go_wp2_with (first | (go_at_call 9; refine (HG.out _).mono ?_; rintro e w' ⟨rfl, rfl⟩) | (go_at_call 12; refine (HV.out _).mono ?_; rintro e w' ⟨rfl, rfl⟩))
  go_ret
  exact ⟨rfl, HK5.out.below (Nat.le_refl _) (by simp)⟩

set_option maxHeartbeats 2000000 in
theorem words_none (W at_ : Nat) (hW : W < 18446744073709551616) (hnm : nameN W = none) (w : World) :
    Calls Try.prog 4 #[.int .u64 (W : Int), .int .u8 (at_ : Int)] w fun e w' => e = .returned (.bool true) ∧ Below w.heap.size w w' := by
  have HA := Lib.hid awake2_at
  have HNM := name_at W w
  rw [hnm, show (none : Option (List Nat)).getD [] = [] from rfl, show (none : Option (List Nat)).isSome = false from rfl, show strN [] = ⟨#[]⟩ from rfl] at HNM
  have HNM := Lib.hid HNM
  obtain ⟨n, hn⟩ : ∃ n, n = byt W 7 := ⟨_, rfl⟩
  have hnn : n < 256 := by rw [hn]; exact byt_lt W 7
  have hsh : (W : Int) / 72057594037927936 = (n : Int) := by rw [hn, byt, show (256 : Nat) ^ 7 = 72057594037927936 from rfl]; omega
  have HNO := Lib.hid (nameN_none hnm)
  rw [← hn] at HNO
  clear hn hnm
  have HJ := Lib.hid (join8_at W hW)
  obtain ⟨q, hq⟩ : ∃ q, q = at_ % 8 := ⟨_, rfl⟩
  have hq8 : q < 8 := by omega
  have m3 : (at_ : Int).tmod 8 = (q : Int) := by rw [hq]; rfl
  have m4 : (at_ : Int) % 8 = (q : Int) := by rw [hq]; rfl
  have HR := Lib.hid (refByte_at W q hW (by omega))
  have hq0 : (0 : Int) ≤ (q : Int) := by omega
  have hq9 : (q : Int) < 8 := by omega
  clear hq
  go_enter Try.func4, Try.ntmps4
  go_wp2_with fail
  refine HNM.out.mono ?_; rintro e w1 ⟨rfl, hk1⟩
  have HK1 := Lib.hid hk1
  clear hk1
  go_wp2_with fail
  refine (bytes_at W w1).mono ?_; rintro e w2 ⟨rfl, hk2⟩
  obtain ⟨w3, hs3, hb3, hk3⟩ := store_bytes (l := List.replicate 8 0) (by simp) (byts_len W) (Blk.new w2 (u8s (List.replicate 8 0)).toArray 34)
  have HS3 := Lib.hid hs3
  have HK3 : Hid (Keeps [] w w3) := (HK1.out.trans hk2 (by simp)).trans (((Keeps.refl [] w2).alloc _).trans hk3 (by simp)) (by simp)
  have HB3 := Lib.hid (B8.of_blk hb3)
  clear hs3 hb3 hk3 hk2 HK1
  go_wp2_with ((with_reducible show wpList _ _ _ (⟨_, .store 34 (.tmp 7) (.tmp 18), _, _, _, _⟩ :: _) _ _); refine wpList_store_any rfl 34 (.tmp 7) (.tmp 18) rfl _ rfl _ rfl _ HS3.out ?_)
  clear HS3
  generalize w2.heap.size = b at *
  go_region_held3 (fun w' => w'.cell? ⟨b, 0, none⟩ = some (.int .u8 (byt W 0 : Nat)) ∧ w'.cell? ⟨b, 1, none⟩ = some (.int .u8 (byt W 1 : Nat)) ∧ w'.cell? ⟨b, 2, none⟩ = some (.int .u8 (byt W 2 : Nat)) ∧ w'.cell? ⟨b, 3, none⟩ = some (.int .u8 (byt W 3 : Nat)) ∧ w'.cell? ⟨b, 4, none⟩ = some (.int .u8 (byt W 4 : Nat)) ∧ w'.cell? ⟨b, 5, none⟩ = some (.int .u8 (byt W 5 : Nat)) ∧ w'.cell? ⟨b, 6, none⟩ = some (.int .u8 (byt W 6 : Nat)) ∧ w'.cell? ⟨b, 7, none⟩ = some (.int .u8 (byt W 7 : Nat)) ∧ w'.cell? ⟨b, q, none⟩ = some (.int .u8 (byt W q : Nat))) (first | exact HB3.out.drew.nine hq8 | exact HB5.out.nine hq8 | exact HB4.out.nine hq8 | go_keep) (first | (go_at_call 6; refine (HA.out _).mono ?_; rintro e w4 ⟨rfl, hk4⟩; (have HK4 := Lib.hid (HK3.out.drew.trans hk4 (by simp))); (have HB4 := Lib.hid (HB3.out.drew.keep hk4)); clear hk4) | (go_at_call 15; refine (HJ.out _).mono ?_; rintro e w5 ⟨rfl, hk5⟩; (have HK5 := Lib.hid (HK4.out.trans hk5 (by simp))); (have HB5 := Lib.hid (HB4.out.keep hk5)); clear hk5) | (go_at_call 16; refine (HR.out _).mono ?_; rintro e w' ⟨rfl, rfl⟩))
  go_wp2_with fail
  clear hsh m3 m4 HA HJ HR
  go_loopg [10, 11] 7 (fun g s10 s11 wx => ∃ k : Nat, k + g = 7 ∧ k ≤ n ∧ s11 = .int .i64 (k : Int) ∧ s10 = .string (strN ((byts W).take k)) ∧ Hid (Keeps [] w wx ∧ B8 wx b W))
  case atStart => exact ⟨0, by omega, by omega, rfl, rfl, HK5.out, HB5.out⟩
  case round =>
    obtain ⟨k, hkg, hkn, rfl, rfl, HP⟩ := hrel
    by_cases hk : k < n ∧ k < 7
    · obtain ⟨hk1, hk2⟩ := hk
      have d1 : (k : Int) < (n : Int) := by omega
      have d2 : (k : Int) < 7 := by omega
      have d0 : (0 : Int) ≤ (k : Int) := by omega
      have hc := HP.out.2.2 k (by omega)
      have hcb := byt_lt W k
      have hcv := conv_one wr (byt W k) hcb
      have HT := Lib.hid (str_snoc W k (by omega))
      have hts : (strN ((byts W).take k)).size ≤ 8 := by rw [strN_size]; simp [byts_len]; omega
      have hus : (strN [byt W k]).size ≤ 1 := by rw [strN_size]; simp
      generalize byt W k = c at *
      generalize strN ((byts W).take k) = t at *
      generalize strN [c] = u at *
      have hcat : ¬ 9223372036854775807 < t.size + u.size := by omega
      clear hts hus
      go_wp2_with fail
      cases gk with
      | zero => omega
      | succ g =>
        go_roundg g
        case measure => omega
        case rel => exact ⟨k + 1, by omega, by omega, by go_num, by rw [HT.out], HP.out.1.alloc _, HP.out.2.keep ((Keeps.refl _ _).alloc _)⟩
    · by_cases h7 : n ≤ 7
      · obtain rfl : k = n := by omega
        have d1 : ¬ (k : Int) < (k : Int) := by omega
        have hwl : ∀ c ∈ (byts W).take k, c < 256 := take_lt (byts_lt W) _
        have hll : ((byts W).take k).length ≤ 7 := by simp [byts_len]; omega
        have HG := refGood_at (strN ((byts W).take k)) (by rw [strN_size]; omega)
        rw [bl_strN hwl] at HG
        have HV := refWord_at (strN ((byts W).take k)) (by rw [strN_size]; exact hll)
        rw [bl_strN hwl] at HV
        have hno := HNO.out h7
        have HG := Lib.hid HG
        have HV := Lib.hid HV
        generalize (byts W).take k = l at *
        clear hwl hll HNO hk hkg hkn
        by_cases h1 : k < 1
        · have d2 : decide ((k : Int) < 1) = true := by simp; omega
          clear hno
          go_wp2_with fail
          go_ret
          exact ⟨rfl, HP.out.1.below (Nat.le_refl _) (by simp)⟩
        · have d2 : decide ((k : Int) < 1) = false := by simp; omega
          have d3 : decide (7 < (k : Int)) = false := by simp; omega
          cases hg : goodN l
          · rw [hg] at HG
            clear hno hg
            go_wp2_with (go_at_call 9; refine (HG.out _).mono ?_; rintro e w' ⟨rfl, rfl⟩)
            go_ret
            exact ⟨rfl, HP.out.1.below (Nat.le_refl _) (by simp)⟩
          · rw [hg] at HG
            have hne := hno hg
            have d4 : (((wordN l : Nat) : Int) != (W : Int)) = true := by simp only [bne_iff_ne, ne_eq]; omega
            clear hno hg hne
            generalize wordN l = W' at *
            go_wp2_with (first | (go_at_call 9; refine (HG.out _).mono ?_; rintro e w' ⟨rfl, rfl⟩) | (go_at_call 12; refine (HV.out _).mono ?_; rintro e w' ⟨rfl, rfl⟩))
            go_ret
            exact ⟨rfl, HP.out.1.below (Nat.le_refl _) (by simp)⟩
      · obtain rfl : k = 7 := by omega
        have d1 : (7 : Int) < (n : Int) := by omega
        have d2 : decide ((n : Int) < 1) = false := by simp; omega
        go_wp2_with fail
        go_ret
        exact ⟨rfl, HP.out.1.below (Nat.le_refl _) (by simp)⟩

theorem words_at (W at_ : Nat) (hW : W < 18446744073709551616) (w : World) :
    Calls Try.prog 4 #[.int .u64 (W : Int), .int .u8 (at_ : Int)] w fun e w' => e = .returned (.bool true) ∧ Below w.heap.size w w' := by
  cases h : nameN W with
  | some l => exact words_some W at_ hW l h w
  | none => exact words_none W at_ hW h w

end Go.Proofs.Ytjbecchapkjnpaa

/-
  Layer 2 (pack): Name; the reference's Word and Byte.
-/
import Derived.Test.YtjbecchapkjnpaaPkD
namespace Go.Proofs.Ytjbecchapkjnpaa
open Go.RowKit

/-- Name as far as the word of the bytes: what is known there. -/
structure NameMid (W : Nat) (w1 w2 : World) : Prop where
  st : (storeVar 34 ⟨w1.heap.size, 0, none⟩ (.agg (u8s (byts W)).toArray)).run Try.prog (w1.alloc (.cells (u8s (List.replicate 8 0)).toArray 34)) = .ok () w2
  c7 : w2.cell? ⟨w1.heap.size, 7, none⟩ = some (.int .u8 (byt W 7 : Nat))
  conv : byt W 7 ≤ 7 → (convert 39 9 (.slice (some ⟨w1.heap.size, 0, none⟩) (byt W 7) 8)).run Try.prog w2 = .ok (.string (strN ((byts W).take (byt W 7)))) w2
  keeps : Keeps [] w1 w2

theorem nameMid (W : Nat) (w1 : World) : ∃ w2, NameMid W w1 w2 := by
  obtain ⟨w2, hs, hb, hk⟩ := store_bytes (l := List.replicate 8 0) (by simp) (byts_len W) (Blk.new w1 (u8s (List.replicate 8 0)).toArray 34)
  have hc : ∀ j, j < 8 → w2.cell? ⟨w1.heap.size, j, none⟩ = some (.int .u8 (byt W j : Nat)) := fun j hj => by
    rw [hb.cell, ← byts_get W j hj]
    simpa using u8s_get (l := byts W) (j := j) (by rw [byts_len]; omega)
  refine ⟨w2, hs, hc 7 (by omega), fun h7 => ?_, ((Keeps.refl [] w1).alloc _).trans hk (by simp)⟩
  have hl : (((byts W).take (byt W 7)).map UInt8.ofNat).length = byt W 7 := by simp [byts_len]; omega
  have := run_convert_bytes_back (P := Try.prog) w2 39 9 5 ⟨w1.heap.size, 0, none⟩ 8 (((byts W).take (byt W 7)).map UInt8.ofNat) Try.underlying39 Try.underlying5 Try.underlying9 fun j hj => by
    rw [hl] at hj
    have hadd : (⟨w1.heap.size, 0, none⟩ : Addr).add j = ⟨w1.heap.size, j, none⟩ := by unfold Addr.add; split <;> simp_all
    rw [hadd, hc j (by omega)]
    have hb := byt_lt W j
    simp [byts, Nat.mod_eq_of_lt hb]
  rw [hl] at this
  exact this

theorem slice_bytes (b n : Nat) (hn : n ≤ 7) (w : World) : (Instr.sliceAt 34 (.pointer (some ⟨b, 0, none⟩)) none (some (.int .i64 (n : Int))) none).run Try.prog w = .ok (.slice (some ⟨b, 0, none⟩) n 8) w := by
  have hc : n = 0 ∨ n = 1 ∨ n = 2 ∨ n = 3 ∨ n = 4 ∨ n = 5 ∨ n = 6 ∨ n = 7 := by omega
  rcases hc with rfl | rfl | rfl | rfl | rfl | rfl | rfl | rfl <;> (show Sem.run _ _ _ = _; kernel_rfl)

set_option maxHeartbeats 1000000 in
theorem name_at (W : Nat) (w : World) :
    Calls Try.prog 11 #[.int .u64 (W : Int)] w fun e w' => e = .returned (.tuple #[.string (strN ((nameN W).getD [])), .bool (nameN W).isSome]) ∧ Keeps [] w w' := by
  have HB := Lib.hid (bytes_at W w)
  have hlt := byt_lt W 7
  go_enter Try.func11, Try.ntmps11
  go_wp2_with fail
  refine HB.out.mono ?_
  rintro e w1 ⟨rfl, hk1⟩
  obtain ⟨w2, hm⟩ := nameMid W w1
  have c7 := hm.c7
  have HM := Lib.hid hm
  have HK := Lib.hid (hk1.trans hm.keeps (by simp))
  clear hm hk1 HB
  by_cases h7 : byt W 7 ≤ 7
  · have hcv := HM.out.conv h7
    have hwl : ∀ c ∈ (byts W).take (byt W 7), c < 256 := take_lt (byts_lt W) _
    have HW := word_at (strN ((byts W).take (byt W 7))) (by rw [strN_size]; simp [byts_len]; omega) w2
    rw [bl_strN hwl] at HW
    unfold wordV at HW
    have HN : Hid (nameN W = if goodN ((byts W).take (byt W 7)) = true ∧ wordN ((byts W).take (byt W 7)) = W then some ((byts W).take (byt W 7)) else none) := by
      show nameN W = _
      unfold nameN
      simp only [h7, true_and]
    generalize (byts W).take (byt W 7) = l at *
    clear hwl
    generalize byt W 7 = n at *
    have HW := Lib.hid HW
    have hsl := fun wz => slice_bytes w1.heap.size n h7 wz
    have h7d : decide (7 < (n : Int)) = false := by simp; omega
    cases hg : goodN l
    · rw [hg, if_neg (by simp)] at HW
      rw [hg, if_neg (by simp)] at HN
      clear hg
      go_wp2_with (first | ((with_reducible show wpList _ _ _ (⟨_, .store 34 (.tmp 4) (.tmp 10), _, _, _, _⟩ :: _) _ _); refine wpList_store_any rfl 34 (.tmp 4) (.tmp 10) rfl _ rfl _ rfl _ HM.out.st ?_) | (go_at_call 7; refine HW.out.mono ?_; rintro e w3 ⟨rfl, hk3⟩; have HK3 := Lib.hid hk3; clear hk3))
      go_ret2
      exact ⟨by rw [HN.out]; rfl, HK.out.trans HK3.out (by simp)⟩
    · rw [hg, if_pos rfl] at HW
      rw [hg] at HN
      clear hg
      by_cases hw : wordN l = W
      · rw [if_pos ⟨rfl, hw⟩] at HN
        rw [hw] at HW
        clear hw
        go_wp2_with (first | ((with_reducible show wpList _ _ _ (⟨_, .store 34 (.tmp 4) (.tmp 10), _, _, _, _⟩ :: _) _ _); refine wpList_store_any rfl 34 (.tmp 4) (.tmp 10) rfl _ rfl _ rfl _ HM.out.st ?_) | (go_at_call 7; refine HW.out.mono ?_; rintro e w3 ⟨rfl, hk3⟩; have HK3 := Lib.hid hk3; clear hk3))
        go_ret2
        exact ⟨by rw [HN.out]; rfl, HK.out.trans HK3.out (by simp)⟩
      · rw [if_neg (fun h => hw h.2)] at HN
        have e1 : ((wordN l : Int) != (W : Int)) = true := by simp; omega
        clear hw
        go_wp2_with (first | ((with_reducible show wpList _ _ _ (⟨_, .store 34 (.tmp 4) (.tmp 10), _, _, _, _⟩ :: _) _ _); refine wpList_store_any rfl 34 (.tmp 4) (.tmp 10) rfl _ rfl _ rfl _ HM.out.st ?_) | (go_at_call 7; refine HW.out.mono ?_; rintro e w3 ⟨rfl, hk3⟩; have HK3 := Lib.hid hk3; clear hk3))
        go_ret2
        exact ⟨by rw [HN.out]; rfl, HK.out.trans HK3.out (by simp)⟩
  · have HN : Hid (nameN W = none) := by
      show nameN W = none
      unfold nameN
      rw [if_neg (fun h => h7 h.1)]
    generalize byt W 7 = n at *
    go_wp2_with (first | ((with_reducible show wpList _ _ _ (⟨_, .store 34 (.tmp 4) (.tmp 10), _, _, _, _⟩ :: _) _ _); refine wpList_store_any rfl 34 (.tmp 4) (.tmp 10) rfl _ rfl _ rfl _ HM.out.st ?_))
    go_ret2
    exact ⟨by rw [HN.out]; rfl, HK.out⟩

end Go.Proofs.Ytjbecchapkjnpaa

/-
  Layer 1: the law PmemSizes, walked.
-/
import Derived.Test.YtnjfiaceldkfkaaPmF
namespace Go.Proofs.Ytnjfiaceldkfkaa
open Go.RowKit

/-- A new memory of such words. -/
def PmS.fresh (xs : List Int) : PmS := { now := xs, last := xs, fl := List.replicate ((xs.length + 7) / 8 * 8) false, deeds := 0, fused := false, left := 0 }

theorem PmS.fresh_fit (xs : List Int) : (PmS.fresh xs).fit := by simp [PmS.fresh, PmS.fit]

set_option maxHeartbeats 1000000 in
theorem awake_at (w : World) : Calls Try.prog 7 #[] w fun e w' => e = .returned (.bool true) ∧ Keeps [] w w' := by
  have HN := Lib.hid (new_at w 9)
  go_enter Try.func7, Try.ntmps7
  go_wp2_with fail
  refine HN.out.mono ?_
  rintro e w1 ⟨b, gn, gl, gf, rfl, hp, hl, hk⟩
  rw [show newN 9 = 9 from rfl] at hp
  have HP : Hid (PmAt w1 b gn gl gf (PmS.fresh (List.replicate 9 0))) := hp
  have HL := Lib.hid hl
  have HK := Lib.hid hk
  clear hp hl hk
  go_wp2_with fail
  refine (len_at HP.out).mono ?_; rintro e w' ⟨rfl, rfl⟩
  rw [show ((PmS.fresh (List.replicate 9 0)).now.length : Int) = 9 from rfl]
  go_wp2_with fail
  have HS := Lib.hid (store_at HP.out (PmS.fresh_fit _) 1 5)
  refine HS.out.mono ?_; rintro e w2 ⟨rfl, hp2, hk2⟩
  rw [show (PmS.fresh (List.replicate 9 0)).refusal 1 = 0 from rfl]
  have HP2 := Lib.hid hp2
  have HK2 := Lib.hid hk2
  clear hp2 hk2
  go_wp2_with fail
  refine (Dirty_at HP2.out).mono ?_; rintro e w3 ⟨rfl, m, rfl⟩
  rw [show (((PmS.fresh (List.replicate 9 0)).store 1 5).dirtyN : Int) = 1 from rfl]
  go_wp2_with fail
  go_ret
  refine ⟨rfl, (HK.out.trans HK2.out ?_).drewN _⟩
  intro x hx
  have := HL.out
  simp only [List.mem_cons, List.not_mem_nil, or_false] at hx
  omega

theorem refusal_new (s : PmS) (h : s.fused = false) (i : Int) : s.refusal i = if i < 0 ∨ (s.now.length : Int) ≤ i then 1 else 0 := by
  simp [PmS.refusal, PmS.gone, h]

set_option maxHeartbeats 1000000 in
theorem sizes_at (n : Int) (w : World) : Calls Try.prog 6 #[.int .i64 n] w fun e w' => e = .returned (.bool true) ∧ Below w.heap.size w w' := by
  have HN := Lib.hid (new_at w n)
  have hq := newN_le n
  have hmin : ((newN n : Nat) : Int) = min (max n 0) 10000 := by unfold newN; omega
  generalize newN n = q at *
  obtain ⟨s, hs⟩ : ∃ s, s = PmS.fresh (List.replicate q 0) := ⟨_, rfl⟩
  have hl : s.now.length = q := by rw [hs]; simp [PmS.fresh]
  have r1 := refusal_new s (by rw [hs]; rfl) (q : Int)
  have r2 := refusal_new s (by rw [hs]; rfl) ((q : Int) - 1)
  have x2 : s.load ((q : Int) - 1) = 0 := by
    rw [PmS.load]
    split
    · rw [hs]
      simp only [PmS.fresh, List.getD_eq_getElem?_getD, List.getElem?_replicate]
      split <;> rfl
    · rfl
  have hg : s.fenceE = 0 := by rw [hs]; rfl
  have hd : s.fence.deeds = 1 := by rw [hs]; rfl
  rw [hl] at r1 r2
  rw [if_pos (.inr (by omega))] at r1
  have HMIN := Lib.hid hmin
  have R1 := Lib.hid r1
  have R2 := Lib.hid r2
  have X2 := Lib.hid x2
  have HG := Lib.hid hg
  have HD := Lib.hid hd
  have HL := Lib.hid hl
  have HS := Lib.hid hs
  have HF : Hid s.fit := by rw [hs]; exact PmS.fresh_fit _
  clear hmin r1 r2 x2 hg hd hl hs
  have hcase : (n < 0 ∧ q = 0) ∨ (n = 0 ∧ q = 0) ∨ (0 < q ∧ n ≤ 10000 ∧ n = (q : Int)) ∨ (10000 < n ∧ q = 10000) := by have := HMIN.out; omega
  rcases hcase with ⟨c1, rfl⟩ | ⟨rfl, rfl⟩ | ⟨c1, c2, rfl⟩ | ⟨c1, rfl⟩
  · go_enter Try.func6, Try.ntmps6
    go_wp2_with fail
    refine HN.out.mono ?_
    rintro e w1 ⟨b, gn, gl, gf, rfl, hp, hl, hk⟩
    have HP : Hid (PmAt w1 b gn gl gf s) := by rw [HS.out]; exact hp
    have HLO := Lib.hid hl
    have HK := Lib.hid hk
    clear hp hl hk
    go_wp2_with fail
    refine (awake_at w1).mono ?_
    rintro e w2 ⟨rfl, hk2⟩
    have HP2 := Lib.hid (HP.out.keep hk2 (by simp) (by simp))
    have HK2 := Lib.hid (HK.out.trans hk2 (by simp))
    clear hk2 HP HK
    go_wp2_with fail
    refine (len_at HP2.out).mono ?_; rintro e w' ⟨rfl, rfl⟩
    rw [HL.out]
    go_wp2_with fail
    refine (load_at HP2.out _).mono ?_; rintro e w' ⟨rfl, rfl⟩
    rw [show s.refusal (-1) = 1 from R2.out, show s.load (-1) = 0 from X2.out]
    go_wp2_with fail
    refine (load_at HP2.out _).mono ?_; rintro e w' ⟨rfl, rfl⟩
    rw [show s.refusal 0 = 1 from R1.out]
    go_wp2_with fail
    refine (fence_at HP2.out HF.out).mono ?_; rintro e w3 ⟨rfl, hp3, hk3⟩
    have HP3 := Lib.hid hp3
    have HK3 := Lib.hid hk3
    clear hp3 hk3
    rw [HG.out]
    go_wp2_with fail
    refine (deeds_at HP3.out).mono ?_; rintro e w' ⟨rfl, rfl⟩
    rw [HD.out]
    go_wp2_with fail
    go_ret
    refine ⟨rfl, Keeps.below (l := []) (HK2.out.trans HK3.out ?_) (Nat.le_refl _) (by simp)⟩
    intro x hx
    have := HLO.out
    simp only [List.mem_cons, List.not_mem_nil, or_false] at hx
    omega
  · go_enter Try.func6, Try.ntmps6
    go_wp2_with fail
    refine HN.out.mono ?_
    rintro e w1 ⟨b, gn, gl, gf, rfl, hp, hl, hk⟩
    have HP : Hid (PmAt w1 b gn gl gf s) := by rw [HS.out]; exact hp
    have HLO := Lib.hid hl
    have HK := Lib.hid hk
    clear hp hl hk
    go_wp2_with fail
    refine (awake_at w1).mono ?_
    rintro e w2 ⟨rfl, hk2⟩
    have HP2 := Lib.hid (HP.out.keep hk2 (by simp) (by simp))
    have HK2 := Lib.hid (HK.out.trans hk2 (by simp))
    clear hk2 HP HK
    go_wp2_with fail
    refine (len_at HP2.out).mono ?_; rintro e w' ⟨rfl, rfl⟩
    rw [HL.out]
    go_wp2_with fail
    refine (load_at HP2.out _).mono ?_; rintro e w' ⟨rfl, rfl⟩
    rw [show s.refusal (-1) = 1 from R2.out, show s.load (-1) = 0 from X2.out]
    go_wp2_with fail
    refine (load_at HP2.out _).mono ?_; rintro e w' ⟨rfl, rfl⟩
    rw [show s.refusal 0 = 1 from R1.out]
    go_wp2_with fail
    refine (fence_at HP2.out HF.out).mono ?_; rintro e w3 ⟨rfl, hp3, hk3⟩
    have HP3 := Lib.hid hp3
    have HK3 := Lib.hid hk3
    clear hp3 hk3
    rw [HG.out]
    go_wp2_with fail
    refine (deeds_at HP3.out).mono ?_; rintro e w' ⟨rfl, rfl⟩
    rw [HD.out]
    go_wp2_with fail
    go_ret
    refine ⟨rfl, Keeps.below (l := []) (HK2.out.trans HK3.out ?_) (Nat.le_refl _) (by simp)⟩
    intro x hx
    have := HLO.out
    simp only [List.mem_cons, List.not_mem_nil, or_false] at hx
    omega
  · have R2' : Hid (s.refusal ((q : Int) - 1) = 0) := by rw [R2.out, if_neg (by omega)]; rfl
    go_enter Try.func6, Try.ntmps6
    go_wp2_with fail
    refine HN.out.mono ?_
    rintro e w1 ⟨b, gn, gl, gf, rfl, hp, hl, hk⟩
    have HP : Hid (PmAt w1 b gn gl gf s) := by rw [HS.out]; exact hp
    have HLO := Lib.hid hl
    have HK := Lib.hid hk
    clear hp hl hk
    go_wp2_with fail
    refine (awake_at w1).mono ?_
    rintro e w2 ⟨rfl, hk2⟩
    have HP2 := Lib.hid (HP.out.keep hk2 (by simp) (by simp))
    have HK2 := Lib.hid (HK.out.trans hk2 (by simp))
    clear hk2 HP HK
    go_wp2_with fail
    refine (len_at HP2.out).mono ?_; rintro e w' ⟨rfl, rfl⟩
    rw [HL.out]
    go_wp2_with fail
    refine (load_at HP2.out _).mono ?_; rintro e w' ⟨rfl, rfl⟩
    rw [R2'.out, X2.out]
    go_wp2_with fail
    refine (load_at HP2.out _).mono ?_; rintro e w' ⟨rfl, rfl⟩
    rw [R1.out]
    go_wp2_with fail
    refine (fence_at HP2.out HF.out).mono ?_; rintro e w3 ⟨rfl, hp3, hk3⟩
    have HP3 := Lib.hid hp3
    have HK3 := Lib.hid hk3
    clear hp3 hk3
    rw [HG.out]
    go_wp2_with fail
    refine (deeds_at HP3.out).mono ?_; rintro e w' ⟨rfl, rfl⟩
    rw [HD.out]
    go_wp2_with fail
    go_ret
    refine ⟨rfl, Keeps.below (l := []) (HK2.out.trans HK3.out ?_) (Nat.le_refl _) (by simp)⟩
    intro x hx
    have := HLO.out
    simp only [List.mem_cons, List.not_mem_nil, or_false] at hx
    omega
  · have R1' : Hid (s.refusal 10000 = 1) := R1.out
    have R2' : Hid (s.refusal 9999 = 0) := by have := R2.out; rw [show (((10000 : Nat) : Int) - 1) = 9999 by omega] at this; rw [this, if_neg (by omega)]; rfl
    have X2' : Hid (s.load 9999 = 0) := by have := X2.out; rw [show (((10000 : Nat) : Int) - 1) = 9999 by omega] at this; exact this
    generalize List.replicate 10000 (0 : Int) = xs at *
    go_enter Try.func6, Try.ntmps6
    go_wp2_with fail
    refine HN.out.mono ?_
    rintro e w1 ⟨b, gn, gl, gf, rfl, hp, hl, hk⟩
    have HP : Hid (PmAt w1 b gn gl gf s) := by rw [HS.out]; exact hp
    have HLO := Lib.hid hl
    have HK := Lib.hid hk
    clear hp hl hk
    go_wp2_with fail
    refine (awake_at w1).mono ?_
    rintro e w2 ⟨rfl, hk2⟩
    have HP2 := Lib.hid (HP.out.keep hk2 (by simp) (by simp))
    have HK2 := Lib.hid (HK.out.trans hk2 (by simp))
    clear hk2 HP HK
    go_wp2_with fail
    refine (len_at HP2.out).mono ?_; rintro e w' ⟨rfl, rfl⟩
    rw [HL.out]
    rw [show ((10000 : Nat) : Int) = 10000 from rfl]
    go_wp2_with fail
    refine (load_at HP2.out _).mono ?_; rintro e w' ⟨rfl, rfl⟩
    rw [R2'.out, X2'.out]
    go_wp2_with fail
    refine (load_at HP2.out _).mono ?_; rintro e w' ⟨rfl, rfl⟩
    rw [R1'.out]
    go_wp2_with fail
    refine (fence_at HP2.out HF.out).mono ?_; rintro e w3 ⟨rfl, hp3, hk3⟩
    have HP3 := Lib.hid hp3
    have HK3 := Lib.hid hk3
    clear hp3 hk3
    rw [HG.out]
    go_wp2_with fail
    refine (deeds_at HP3.out).mono ?_; rintro e w' ⟨rfl, rfl⟩
    rw [HD.out]
    go_wp2_with fail
    go_ret
    refine ⟨rfl, Keeps.below (l := []) (HK2.out.trans HK3.out ?_) (Nat.le_refl _) (by simp)⟩
    intro x hx
    have := HLO.out
    simp only [List.mem_cons, List.not_mem_nil, or_false] at hx
    omega

end Go.Proofs.Ytnjfiaceldkfkaa

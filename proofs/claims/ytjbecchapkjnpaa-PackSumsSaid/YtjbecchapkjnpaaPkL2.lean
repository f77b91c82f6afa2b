/-
  Layer 2: PackSums, walked.
-/
import Derived.Test.YtjbecchapkjnpaaPkL1
namespace Go.Proofs.Ytjbecchapkjnpaa
open Go.RowKit

theorem Try.info_word : (Try.prog.info? 23).map (fun i => (i.zero, i.size, i.bytes)) = some (some (.int .u64 0), 1, 8) := by kernel_rfl

theorem w64s_one (l : List Nat) : ∀ u ∈ w64s l, u.oneCell' = true := by
  intro u hu
  simp only [w64s, List.mem_map] at hu
  obtain ⟨x, -, rfl⟩ := hu
  rfl

theorem w64s_set (l : List Nat) (j x : Nat) : (w64s l).set j (.int .u64 (x : Int)) = w64s (l.set j x) := by simp [w64s, List.map_set]

theorem byts_get0 (W k : Nat) : (byts W).getD k 0 = if k < 8 then byt W k else 0 := by
  by_cases h : k < 8
  · rw [if_pos h, byts_get W k h]
  · rw [if_neg h, List.getD_eq_getElem?_getD, List.getElem?_eq_none (by rw [byts_len]; omega)]; rfl

/-- One byte of a word otherwise: another sum. -/
theorem sumW_xor_ne {x c q : Nat} (hq : q < 8) (hc : c < 256) (hc0 : c ≠ 0) : ∀ h, h < 4294967296 → sumW h x ≠ sumW h (x ^^^ c * 256 ^ q) := by
  refine foldl_fnv_ne _ _ (byts_lt _) (byts_lt _) q (by rw [byts_len]; exact hq) (by rw [byts_len, byts_len]) ?_ ?_
  · rw [byts_get _ _ hq, byts_get _ _ hq, byt_xor _ _ _ _ hc, if_pos rfl]
    intro e
    apply hc0
    have := xor_left (c := byt x q) (a := 0) (b := c) (by simpa using e)
    exact this.symm
  · intro k hk
    rw [byts_get0, byts_get0, byt_xor _ _ _ _ hc, if_neg hk]

theorem xor_nat {x c q : Nat} (hx : x < 18446744073709551616) (hc : c < 256) (hq : q < 8) : bits .xor .u64 (x : Int) (IntKind.u64.wrap ((c : Int) * 2 ^ (8 * q))) = ((x ^^^ c * 256 ^ q : Nat) : Int) := by
  have := shl_nat hc hq
  rw [wrap64_nat c (by omega)] at this
  rw [this, u64_xor_nat _ _ hx (mul_pow_lt hc hq)]

/-- A copy of words, made by append. -/
theorem copy_made {w2 w3 : World} {v' : Value} {xs : List Nat} (h0 : xs.length ≠ 0) (hown' : w3.ownsRow w2.heap.size 23 1 v' (0 + xs.length) ([] ++ w64s xs))
    (hgrow : (w2.alloc (.cells #[] 23)).grownBy w3 (Value.ownBlock (.slice (some ⟨w2.heap.size, 0, none⟩) 0 0))) (p : Nat) (hp : p < xs.length) :
    ∃ g cap, v' = .slice (some ⟨g, 0, none⟩) xs.length cap ∧ xs.length ≤ cap ∧ cap ≤ maxLen ∧ w3.cell? ⟨g, p, none⟩ = some (.int .u64 (xs.getD p 0 : Nat)) ∧ w3.frozen? ⟨g, p, none⟩ = false ∧
      Hid (w2.heap.size ≤ g ∧ Owns w3 v' g 23 1 xs.length (w64s xs) ∧ Keeps [] w2 w3) := by
  obtain ⟨g, ho, hg⟩ := Owns.of_row hown'
  have ho' : Owns w3 v' g 23 1 xs.length (w64s xs) := by simpa using ho
  obtain ⟨-, ⟨cap, hv, c1, c2⟩, hc, hf⟩ := ho'.cell h0
  have hk := Keeps.of_grown (l := []) ((World.grownBy_alloc w2 (.cells #[] 23) none)) (by simp)
  have hk2 : Keeps [w2.heap.size] (w2.alloc (.cells #[] 23)) w3 := Keeps.of_grown hgrow (by intro k hk; simp [Value.ownBlock] at hk; subst hk; simp)
  exact ⟨g, cap, hv, c1, c2, (hc p (by omega)).trans (w64s_get hp), hf p, (hg (by omega)).1, ho', hk.trans hk2 (by simp)⟩

theorem Owns.reads_set {w : World} {v : Value} {g : Nat} {xs : List Nat} (h : Owns w v g 23 1 xs.length (w64s xs)) (p x : Nat) : Reads (w.setCell ⟨g, p, none⟩ (.int .u64 (x : Int))) v g (w64s (xs.set p x)) := by
  have := (h.set p (.int .u64 (x : Int))).reads
  rwa [w64s_set] at this

set_option maxHeartbeats 2000000 in
theorem sums_at {w : World} {v : Value} {gb : Nat} {xs : List Nat} (h : Reads w v gb (w64s xs)) (hx : ∀ x ∈ xs, x < 18446744073709551616) (at_ by_ : Nat) (ha : at_ < 256) (hb : by_ < 256) :
    Calls Try.prog 5 #[v, .int .u8 (at_ : Int), .int .u8 (by_ : Int)] w fun e w' => e = .returned (.bool true) ∧ Below w.heap.size w w' := by
  have HA := Lib.hid awake2_at
  have HR := Lib.hid h
  obtain ⟨a, cap, rfl, h1, h2, h3⟩ := h
  rw [w64s_len] at *
  by_cases hn : xs.length ≤ 200
  · have q1 : decide (200 < (xs.length : Int)) = false := by simp; omega
    have HQ := Lib.hid (sumN_lt xs)
    have HS := Lib.hid (fun (wz : World) (hk : Keeps [] w wz) => sum_at (HR.out.keep hk (by simp)))
    have HV := Lib.hid (fun (wz : World) (hk : Keeps [] w wz) => refSum_at (HR.out.keep hk (by simp)) hx)
    by_cases h0 : xs.length = 0
    · obtain rfl : xs = [] := List.eq_nil_of_length_eq_zero h0
      clear h0 h1 h2 h3 hn
      go_enter Try.func5, Try.ntmps5
      go_wp2_with fail
      refine (HA.out _).mono ?_; rintro e w1 ⟨rfl, hk1⟩
      have HK1 := Lib.hid hk1
      clear hk1
      go_wp2_with fail
      refine (HS.out _ HK1.out).mono ?_; rintro e w2 ⟨rfl, hk2⟩
      have HK2 := Lib.hid (HK1.out.trans hk2 (by simp))
      clear hk2 HK1
      go_wp2_with fail
      refine (HV.out _ HK2.out).mono ?_; rintro e w' ⟨rfl, rfl⟩
      go_wp2_with fail
      go_ret
      exact ⟨rfl, HK2.out.below (Nat.le_refl _) (by simp)⟩
    · by_cases hb0 : by_ = 0
      · subst hb0
        clear h3
        have e0 : ((xs.length : Int) == 0) = false := beq_eq_false_iff_ne.2 (by omega)
        go_enter Try.func5, Try.ntmps5
        go_wp2_with fail
        refine (HA.out _).mono ?_; rintro e w1 ⟨rfl, hk1⟩
        have HK1 := Lib.hid hk1
        clear hk1
        go_wp2_with fail
        refine (HS.out _ HK1.out).mono ?_; rintro e w2 ⟨rfl, hk2⟩
        have HK2 := Lib.hid (HK1.out.trans hk2 (by simp))
        clear hk2 HK1
        go_wp2_with fail
        refine (HV.out _ HK2.out).mono ?_; rintro e w' ⟨rfl, rfl⟩
        go_wp2_with fail
        go_ret
        exact ⟨rfl, HK2.out.below (Nat.le_refl _) (by simp)⟩
      · have e0 : ((xs.length : Int) == 0) = false := beq_eq_false_iff_ne.2 (by omega)
        have e1 : ((by_ : Int) == 0) = false := beq_eq_false_iff_ne.2 (by omega)
        obtain ⟨i0, hi, hz0, hz1, hz2⟩ := info_parts Try.info_word
        obtain ⟨hg, off, rfl, hcells⟩ := h3 (by intro e; have := congrArg List.length e; rw [w64s_len, List.length_nil] at this; omega)
        have HC : Hid (∀ (wz : World), Keeps [] w wz → ∀ j u, (w64s xs)[j]? = some u → wz.cell? ((⟨gb, off, none⟩ : Addr).add j) = some u) := fun wz hk j u hu => by
          have hj : j < (w64s xs).length := (List.getElem?_eq_some_iff.1 hu).1
          rw [w64s_len] at hj
          have hadd : (⟨gb, off, none⟩ : Addr).add j = ⟨gb, off + j, none⟩ := by unfold Addr.add; split <;> simp_all
          rw [hadd, World.cell?_of_block (w := w) (hk.block gb hg (by simp)), hcells j hj, hu]
        clear hcells h2
        obtain ⟨p, hp⟩ : ∃ p, p = at_ % xs.length := ⟨_, rfl⟩
        have hpl : p < xs.length := by rw [hp]; exact Nat.mod_lt _ (by omega)
        have m1 : (at_ : Int).tmod (xs.length : Int) = (p : Int) := by rw [hp]; rfl
        have m2 : (at_ : Int) % (xs.length : Int) = (p : Int) := by rw [hp]; rfl
        obtain ⟨q, hq⟩ : ∃ q, q = at_ % 8 := ⟨_, rfl⟩
        have hq8 : q < 8 := by omega
        have m3 : (at_ : Int).tmod 8 = (q : Int) := by rw [hq]; rfl
        have m4 : (at_ : Int) % 8 = (q : Int) := by rw [hq]; rfl
        have HNE := Lib.hid (sumN_ne xs p (xs.getD p 0 ^^^ by_ * 256 ^ q) hpl (sumW_xor_ne hq8 hb hb0))
        have hne : (((sumN (xs.set p (xs.getD p 0 ^^^ by_ * 256 ^ q)) : Nat) : Int) != ((sumN xs : Nat) : Int)) = true := by
          have := HNE.out
          simp only [bne_iff_ne, ne_eq]
          omega
        have hxp : xs.getD p 0 < 18446744073709551616 := by
          rw [List.getD_eq_getElem?_getD, List.getElem?_eq_getElem hpl]
          exact hx _ (List.getElem_mem _)
        have HXR := Lib.hid (xor_nat hxp hb hq8)
        have HM0 := Lib.hid (fun (w2 w3 : World) (v' : Value) hown' hgrow => copy_made (w2 := w2) (w3 := w3) (v' := v') h0 hown' hgrow p hpl)
        have HS2 := Lib.hid (fun (wz : World) (v' : Value) (g : Nat) (ho : Owns wz v' g 23 1 xs.length (w64s xs)) => sum_at (ho.reads_set p (xs.getD p 0 ^^^ by_ * 256 ^ q)))
        generalize sumN (xs.set p (xs.getD p 0 ^^^ by_ * 256 ^ q)) = s2 at *
        generalize xs.getD p 0 = x at *
        clear hp hq hb0 HNE h3
        go_enter Try.func5, Try.ntmps5
        go_wp2_with fail
        refine (HA.out _).mono ?_; rintro e w1 ⟨rfl, hk1⟩
        have HK1 := Lib.hid hk1
        clear hk1
        go_wp2_with fail
        refine (HS.out _ HK1.out).mono ?_; rintro e w2 ⟨rfl, hk2⟩
        have HK2 := Lib.hid (HK1.out.trans hk2 (by simp))
        clear hk2 HK1
        go_wp2_with fail
        refine (HV.out _ HK2.out).mono ?_; rintro e w' ⟨rfl, rfl⟩
        have hown : (w2.alloc (.cells #[] 23)).ownsRow w2.heap.size 23 1 (.slice (some ⟨w2.heap.size, 0, none⟩) 0 0) 0 [] := World.ownsRow_made w2 #[] 0 (Nat.le_refl _) (by simp [maxLen]) (by simp)
        have HO := Lib.hid hown
        clear hown
        go_wp2_with (at_builtin; refine wpList_append_own _ rfl _ _ 33 rfl w2.heap.size 23 i0 (.int .u64 0) 1 8 Try.underlying33 hi hz0 hz1 hz2 rfl (by decide) (.slice (some ⟨w2.heap.size, 0, none⟩) 0 0) _ _ rfl HO.out ⟨gb, off, none⟩ xs.length cap (w64s xs) rfl (by rw [w64s_len]; omega) (HC.out _ (HK2.out.alloc _)) (w64s_one xs) (by unfold maxLen; omega) (by omega) (by simp) ?_; intro v' w3 hown' hgrow _; obtain ⟨g', cap', rfl, hc1, hc2, hcell, hfr, HM⟩ := HM0.out _ _ _ hown' hgrow; unfold maxLen at hc2; clear hown' hgrow)
        rw [HXR.out]
        refine (HS2.out _ _ _ HM.out.2.1).mono ?_; rintro e w4 ⟨rfl, hk4⟩
        have HK4 := Lib.hid (Keeps.trans (l := []) (Keeps.setCell (p := ⟨g', p, none⟩) (HK2.out.trans HM.out.2.2 (by simp)) (.inr (Nat.le_trans HK2.out.size HM.out.1)) _) hk4 (by simp))
        clear hk4
        go_wp2_with fail
        go_ret
        exact ⟨rfl, HK4.out.below (Nat.le_refl _) (by simp)⟩
  · have q1 : decide (200 < (xs.length : Int)) = true := by simp; omega
    clear h3
    go_enter Try.func5, Try.ntmps5
    go_wp2_with fail
    refine (HA.out _).mono ?_; rintro e w1 ⟨rfl, hk1⟩
    have HK1 := Lib.hid hk1
    clear hk1
    go_wp2_with fail
    refine (HA.out _).mono ?_; rintro e w2 ⟨rfl, hk2⟩
    have HK2 := Lib.hid (HK1.out.trans hk2 (by simp))
    clear hk2
    go_wp2_with fail
    go_ret
    exact ⟨rfl, HK2.out.below (Nat.le_refl _) (by simp)⟩

end Go.Proofs.Ytjbecchapkjnpaa

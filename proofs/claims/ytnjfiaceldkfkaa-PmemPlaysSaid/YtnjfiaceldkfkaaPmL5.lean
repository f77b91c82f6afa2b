/-
  Layer 1: Fuse, and how the memory and its reference stand to each other.
-/
import Derived.Test.YtnjfiaceldkfkaaRefF
namespace Go.Proofs.Ytnjfiaceldkfkaa
open Go.RowKit

def PmS.fuse (s : PmS) (n : Int) : PmS := if s.gone = true then s else { s with fused := decide (0 ≤ n), left := if n < 0 then 0 else n }

set_option maxHeartbeats 1000000 in
theorem fuse_at {w : World} {b gn gl gf : Nat} {s : PmS} (h : PmAt w b gn gl gf s) (n : Int) :
    Calls Try.prog 18 #[.pointer (some ⟨b, 0, none⟩), .int .i64 n] w fun e w' => e = .returned (.tuple #[]) ∧ PmAt w' b gn gl gf (s.fuse n) ∧ Keeps [b] w w' := by
  have HG := Lib.hid (gone_at h)
  have H := Lib.hid h
  obtain ⟨vn, vl, vf, a, -, -, -⟩ := h.at_
  have h4 : w.cell? ⟨b, 4, none⟩ = some (.bool s.fused) := by rw [a.cell]; rfl
  have h5 : w.cell? ⟨b, 5, none⟩ = some (.int .i64 s.left) := by rw [a.cell]; rfl
  have g4 : w.frozen? ⟨b, 4, none⟩ = false := a.frozen 4
  have g5 : w.frozen? ⟨b, 5, none⟩ = false := a.frozen 5
  clear a h
  cases hg : s.gone
  · rw [hg] at HG
    have HE : Hid (∀ w', (w' = (w.setCell ⟨b, 4, none⟩ (.bool (decide (0 ≤ n)))).setCell ⟨b, 5, none⟩ (.int .i64 (if n < 0 then 0 else n))) → PmAt w' b gn gl gf (s.fuse n) ∧ Keeps [b] w w') := by
      rintro w' rfl
      have hk : Keeps [b] w ((w.setCell ⟨b, 4, none⟩ (.bool (decide (0 ≤ n)))).setCell ⟨b, 5, none⟩ (.int .i64 (if n < 0 then 0 else n))) := ((Keeps.refl _ _).setCell (by simp) _).setCell (by simp) _
      have hs : s.fuse n = { s with fused := decide (0 ≤ n), left := if n < 0 then 0 else n } := by unfold PmS.fuse; rw [if_neg (by simp [hg])]
      rw [hs]
      refine ⟨H.out.six hk ⟨rfl, rfl, rfl⟩ ?_, hk⟩
      · intro vn vl vf a
        simpa using (a.set 4 (.bool (decide (0 ≤ n)))).set 5 (.int .i64 (if n < 0 then 0 else n))
    clear hg
    by_cases h0 : n < 0
    · have d0 : decide (0 ≤ n) = false := decide_eq_false (by omega)
      rw [d0, if_pos h0] at HE
      go_enter Try.func18, Try.ntmps18
      go_wp2_with fail
      refine HG.out.mono ?_; rintro e w' ⟨rfl, rfl⟩
      go_wp2_with fail
      go_end0
      exact ⟨rfl, HE.out _ rfl⟩
    · have d0 : decide (0 ≤ n) = true := decide_eq_true (by omega)
      have h1 : 0 ≤ n := by omega
      rw [d0, if_neg h0] at HE
      go_enter Try.func18, Try.ntmps18
      go_wp2_with fail
      refine HG.out.mono ?_; rintro e w' ⟨rfl, rfl⟩
      go_wp2_with fail
      go_end0
      exact ⟨rfl, HE.out _ rfl⟩
  · rw [hg] at HG
    have HE : Hid (s.fuse n = s) := by show s.fuse n = s; rw [PmS.fuse, if_pos hg]
    clear hg
    go_enter Try.func18, Try.ntmps18
    go_wp2_with fail
    refine HG.out.mono ?_; rintro e w' ⟨rfl, rfl⟩
    go_wp2_with fail
    first | go_end0 | (refine bodyPost_ret (results_none rfl _ _ _) rfl ?_)
    exact ⟨rfl, by rw [HE.out]; exact H.out, Keeps.refl _ _⟩

/-- The memory and the reference hold the same. -/
structure Rel (s : PmS) (r : RefS) : Prop where
  now : r.now = s.now
  last : r.last = s.last
  fl : r.fl = s.fl.take s.now.length
  deeds : r.deeds = s.deeds
  fuse : r.fuse = if s.fused = true then s.left else -1
  left : 0 ≤ s.left
  max : s.left ≤ 9223372036854775807

theorem Rel.gone {s : PmS} {r : RefS} (h : Rel s r) : s.gone = true ↔ r.fuse = 0 := by
  rw [h.fuse, PmS.gone]
  cases s.fused <;> simp

theorem Rel.bump {s : PmS} {r : RefS} (h : Rel s r) (hg : s.gone = false) : Rel s.count r.bump := by
  obtain ⟨h1, h2, h3, h4, h5, h6, h7⟩ := h
  have hf : s.fused = true → 0 < s.left := by
    intro e
    simp only [PmS.gone, e, Bool.true_and, beq_eq_false_iff_ne] at hg
    omega
  refine ⟨h1, h2, h3, by simp [RefS.bump, PmS.count, h4], ?_, ?_, ?_⟩
  · simp only [RefS.bump, PmS.count, h5]
    by_cases hs : s.fused = true
    · have := hf hs
      simp [hs, this]
    · simp [hs]
  · simp only [PmS.count]
    split
    · have := hf ‹_›; omega
    · exact h6
  · simp only [PmS.count]
    split <;> omega

theorem take_set' {α : Type} (l : List α) (n i : Nat) (x : α) : (l.set i x).take n = (l.take n).set i x := by rw [List.take_set]

theorem Rel.store {s : PmS} {r : RefS} (h : Rel s r) (i : Nat) (x : Int) (hr : s.refusal i = 0) : Rel (s.store i x) { r.bump with now := r.now.set i x, fl := r.fl.set i false } := by
  obtain ⟨hg, -, -⟩ := PmS.refusal_ok hr
  have hb := h.bump hg
  rw [PmS.store, if_pos hr]
  refine ⟨by simp [h.now], hb.last, ?_, hb.deeds, hb.fuse, hb.left, hb.max⟩
  simp only [Int.toNat_natCast, List.length_set, take_set', h.fl]

theorem flTo_take (fl : List Bool) (q n : Nat) : (flTo fl q 8).take n = flTo (fl.take n) q 8 := by
  apply List.ext_getElem?
  intro j
  simp only [flTo, List.getElem?_take, List.getElem?_mapIdx]
  by_cases hj : j < n
  · rw [if_pos hj, if_pos hj]
  · rw [if_neg hj, if_neg hj]; rfl

theorem Rel.flush {s : PmS} {r : RefS} (h : Rel s r) (i : Nat) (hr : s.refusal i = 0) : Rel (s.flush i) { r.bump with fl := flTo r.fl (i / 8) 8 } := by
  obtain ⟨hg, -, -⟩ := PmS.refusal_ok hr
  have hb := h.bump hg
  rw [PmS.flush, if_pos hr]
  refine ⟨hb.now, hb.last, ?_, hb.deeds, hb.fuse, hb.left, hb.max⟩
  show flTo r.fl (i / 8) 8 = (flTo s.fl ((i : Int).toNat / 8) 8).take s.now.length
  rw [flTo_take, Int.toNat_natCast, h.fl]

theorem Rel.fence {s : PmS} {r : RefS} (h : Rel s r) (hg : s.gone = false) (hl : s.last.length = s.now.length) (hfl : s.fl.length = (s.now.length + 7) / 8 * 8) :
    Rel s.fence { r.bump with last := fenR r r.now.length, fl := List.replicate r.fl.length false } := by
  have hb := h.bump hg
  rw [PmS.fence, if_neg (by simp [hg])]
  refine ⟨hb.now, ?_, ?_, hb.deeds, hb.fuse, hb.left, hb.max⟩
  · show fenR r r.now.length = fenceTo s s.now.length
    apply List.ext_getElem?
    intro j
    simp only [fenR, fenceTo, List.getElem?_mapIdx, h.last, h.now, h.fl]
    cases hj : s.last[j]? with
    | none => rfl
    | some x =>
      have := (List.getElem?_eq_some_iff.1 hj).1
      simp only [Option.map_some, Option.some.injEq]
      have e1 : (s.fl.take s.now.length).getD j false = s.fl.getD j false := by
        rw [List.getD_eq_getElem?_getD, List.getElem?_take, if_pos (by omega), ← List.getD_eq_getElem?_getD]
      rw [e1]
  · show List.replicate r.fl.length false = (List.replicate s.fl.length false).take s.now.length
    rw [h.fl, List.take_replicate, List.length_take, hfl]

theorem Rel.fuse' {s : PmS} {r : RefS} (h : Rel s r) (n : Int) (hn : n ≤ 9223372036854775807) : Rel (s.fuse n) (r.fuseTo n) := by
  by_cases hg : s.gone = true
  · rw [PmS.fuse, if_pos hg, RefS.fuseTo, if_pos (h.gone.1 hg)]; exact h
  · rw [PmS.fuse, if_neg hg, RefS.fuseTo, if_neg (fun e => hg (h.gone.2 e))]
    refine ⟨h.now, h.last, h.fl, h.deeds, ?_, ?_, ?_⟩
    · by_cases h0 : 0 ≤ n
      · simp [h0, show ¬ n < -1 by omega, show ¬ n < 0 by omega]
      · simp only [h0, decide_false, Bool.false_eq_true, if_false]
        split <;> omega
    · show 0 ≤ if n < 0 then 0 else n
      split <;> omega
    · show (if n < 0 then 0 else n) ≤ _
      split <;> omega

theorem Rel.crash {s : PmS} {r : RefS} (h : Rel s r) (ks : List Int) (hl : s.last.length = s.now.length) (hfl : s.fl.length = (s.now.length + 7) / 8 * 8) : Rel (s.crash ks) (r.crash ks) := by
  refine ⟨by simp [RefS.crash, PmS.crash, h.now, h.last], by simp [RefS.crash, PmS.crash, h.now, h.last], ?_, h.deeds, rfl, by simp [PmS.crash], by simp [PmS.crash]⟩
  show List.replicate r.fl.length false = (List.replicate s.fl.length false).take (crashM ks s.now s.last 0).length
  rw [crashM_len _ _ _ _ hl.symm, h.fl, List.take_replicate, List.length_take, hfl]

theorem Rel.dirty {s : PmS} {r : RefS} (h : Rel s r) : dirtyN r.now r.last = s.dirtyN := by rw [h.now, h.last]; rfl

end Go.Proofs.Ytnjfiaceldkfkaa

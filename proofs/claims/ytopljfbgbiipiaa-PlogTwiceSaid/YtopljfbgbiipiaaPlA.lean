/-
  Layer 3 (plog): slices of pairs in memory; what stores, flushes and a fence make of a memory at rest.
-/
import Derived.Test.YtopljfbgbiipiaaPlS
namespace Go.Proofs.Ytopljfbgbiipiaa
open Go.RowKit

/-- The slice value v reads as these pairs, which lie in block g (whatever g, if there are none). -/
def PReads (w : World) (v : Value) (g : Nat) (ps : List (Int × Int)) : Prop :=
  ∃ a cap, v = .slice a ps.length cap ∧ ps.length ≤ cap ∧ cap ≤ maxLen ∧ (ps.length ≠ 0 → g < w.heap.size ∧ ∃ off, a = some ⟨g, off, none⟩ ∧
    ∀ j, j < ps.length → w.cell? ⟨g, off + j * 2, none⟩ = some (.int .i64 (patN ps j)) ∧ w.cell? ⟨g, off + j * 2 + 1, none⟩ = some (.int .u64 (pwdN ps j)))

theorem PReads.keep {w w' : World} {v : Value} {g : Nat} {ps : List (Int × Int)} (h : PReads w v g ps) {l : List Nat} (hk : Keeps l w w') (hg : ps.length ≠ 0 → g ∉ l) : PReads w' v g ps := by
  obtain ⟨a, cap, h1, h2, h3, h4⟩ := h
  refine ⟨a, cap, h1, h2, h3, fun hx => ?_⟩
  obtain ⟨hlt, off, h5, h6⟩ := h4 hx
  refine ⟨Nat.lt_of_lt_of_le hlt hk.size, off, h5, fun j hj => ?_⟩
  have hb := hk.block g hlt (hg hx)
  exact ⟨(World.cell?_of_block (w := w) (w' := w') (a := ⟨g, off + j * 2, none⟩) hb).trans (h6 j hj).1, (World.cell?_of_block (w := w) (w' := w') (a := ⟨g, off + j * 2 + 1, none⟩) hb).trans (h6 j hj).2⟩

theorem PReads.val {w : World} {v : Value} {g : Nat} {ps : List (Int × Int)} (h : PReads w v g ps) : ∃ a cap, v = .slice a ps.length cap ∧ ps.length ≤ cap ∧ cap ≤ maxLen := by
  obtain ⟨a, cap, h1, h2, h3, h4⟩ := h
  exact ⟨a, cap, h1, h2, h3⟩

theorem PReads.get {w : World} {a : Option Addr} {n cap : Nat} {g : Nat} {ps : List (Int × Int)} (h : PReads w (.slice a n cap) g ps) {j : Nat} (hj : j < ps.length) :
    g < w.heap.size ∧ ∃ off, a = some ⟨g, off, none⟩ ∧ w.cell? ⟨g, off + j * 2, none⟩ = some (.int .i64 (patN ps j)) ∧ w.cell? ⟨g, off + j * 2 + 1, none⟩ = some (.int .u64 (pwdN ps j)) := by
  obtain ⟨a', cap', h1, h2, h3, h4⟩ := h
  cases h1
  obtain ⟨h5, off, h6, h7⟩ := h4 (by omega)
  exact ⟨h5, off, h6, h7 j hj⟩

def pcells (ps : List (Int × Int)) : List Value := ps.flatMap fun p => [.int .i64 p.1, .int .u64 p.2]

theorem pcells_len (ps : List (Int × Int)) : (pcells ps).length = ps.length * 2 := by
  induction ps with
  | nil => rfl
  | cons p ps ih => simp [pcells] at ih ⊢; omega

theorem pcells_append (ps qs : List (Int × Int)) : pcells (ps ++ qs) = pcells ps ++ pcells qs := by simp [pcells]

theorem pcells_get (ps : List (Int × Int)) : ∀ k, k < ps.length → (pcells ps)[k * 2]? = some (.int .i64 (patN ps k)) ∧ (pcells ps)[k * 2 + 1]? = some (.int .u64 (pwdN ps k)) := by
  induction ps with
  | nil => intro k h; simp at h
  | cons p ps ih =>
    intro k h
    have hc : pcells (p :: ps) = .int .i64 p.1 :: .int .u64 p.2 :: pcells ps := rfl
    cases k with
    | zero => rw [hc]; exact ⟨rfl, rfl⟩
    | succ k =>
      have := ih k (by simpa using h)
      rw [hc, show (k + 1) * 2 = k * 2 + 1 + 1 by omega]
      simp only [List.getElem?_cons_succ]
      exact this

theorem pcells_one (ps : List (Int × Int)) : ∀ u ∈ pcells ps, u.oneCell' = true := by
  intro u hu
  simp only [pcells, List.mem_flatMap, List.mem_cons, List.not_mem_nil, or_false] at hu
  obtain ⟨p, -, rfl | rfl⟩ := hu <;> rfl

theorem Owns.preads {w : World} {v : Value} {g T : Nat} {ps : List (Int × Int)} (h : Owns w v g T 2 ps.length (pcells ps)) : PReads w v g ps := by
  obtain ⟨a, cap, hv, h1, h2⟩ := h.val
  refine ⟨a, cap, hv, h1, h2, fun h0 => ?_⟩
  obtain ⟨hg, ⟨cap', hv', -, -⟩, hc, -⟩ := h.cell h0
  rw [hv] at hv'
  cases hv'
  refine ⟨hg, 0, rfl, fun j hj => ?_⟩
  rw [Nat.zero_add, hc (j * 2) (by omega), hc (j * 2 + 1) (by omega)]
  exact pcells_get ps j hj

/-- A memory at rest: all lasts, nothing is marked. -/
def calm (xs : List Int) (d : Int) : PmS := { now := xs, last := xs, fl := List.replicate ((xs.length + 7) / 8 * 8) false, deeds := d, fused := false, left := 0 }

/-- .. with some words stored, of which lines are marked. -/
def flOf (n : Nat) (qs : List (Int × Int)) : List Bool := (List.range n).map fun i => qs.any fun p => p.1 / 8 == ((i / 8 : Nat) : Int)
def stirred (xs : List Int) (ps qs : List (Int × Int)) (d : Int) : PmS :=
  { now := putAll xs ps, last := xs, fl := flOf ((xs.length + 7) / 8 * 8) qs, deeds := d, fused := false, left := 0 }

theorem flOf_nil (n : Nat) : flOf n [] = List.replicate n false := by
  apply List.ext_getElem?
  intro j
  simp only [flOf, List.any_nil, List.getElem?_map, List.getElem?_replicate]
  by_cases h : j < n
  · rw [List.getElem?_range h, if_pos h]; rfl
  · rw [List.getElem?_eq_none (by simpa using h), if_neg h]; rfl

theorem calm_eq (xs : List Int) (d : Int) : calm xs d = stirred xs [] [] d := by simp [calm, stirred, flOf_nil, putAll]

theorem stirred_refusal {xs : List Int} {ps qs : List (Int × Int)} {d : Int} {i : Int} (h0 : 0 ≤ i) (h1 : i < xs.length) : (stirred xs ps qs d).refusal i = 0 := by
  simp [PmS.refusal, PmS.gone, stirred, putAll_len]
  omega

theorem stirred_store (xs : List Int) (ps : List (Int × Int)) (d : Int) (i x : Int) (h0 : 0 ≤ i) (h1 : i < xs.length) : (stirred xs ps [] d).store i x = stirred xs (ps ++ [(i, x)]) [] (d + 1) := by
  rw [PmS.store, if_pos (stirred_refusal h0 h1)]
  simp only [stirred, PmS.count, putAll_append, putAll_one, flOf_nil]
  congr 1
  apply List.ext_getElem?
  intro j
  rw [List.getElem?_set]
  simp only [List.getElem?_replicate, List.length_replicate]
  split
  · rename_i e
    subst e
    split <;> simp_all
  · rfl

theorem flOf_mark (n : Nat) (qs : List (Int × Int)) (i x : Int) (h0 : 0 ≤ i) : flTo (flOf n qs) (i.toNat / 8) 8 = flOf n (qs ++ [(i, x)]) := by
  apply List.ext_getElem?
  intro j
  simp only [flTo, flOf, List.getElem?_mapIdx, List.getElem?_map]
  by_cases hj : j < n
  · rw [List.getElem?_range hj]
    simp only [Option.map_some, Option.some.injEq, List.any_append, List.any_cons, List.any_nil, Bool.or_false]
    by_cases h : i.toNat / 8 * 8 ≤ j ∧ j < i.toNat / 8 * 8 + 8
    · rw [if_pos h]
      have : (i / 8 == ((j / 8 : Nat) : Int)) = true := by simp; omega
      rw [this, Bool.or_true]
    · rw [if_neg h]
      have : (i / 8 == ((j / 8 : Nat) : Int)) = false := by simp; omega
      rw [this, Bool.or_false]
  · rw [List.getElem?_eq_none (by simpa using hj)]; rfl

theorem flOf_skip (n : Nat) (qs : List (Int × Int)) (i x : Int) (h : i / 8 ∈ linesOf qs) : flOf n (qs ++ [(i, x)]) = flOf n qs := by
  unfold flOf
  apply List.map_congr_left
  intro j _
  rw [List.any_append]
  by_cases hq : (qs.any fun p => p.1 / 8 == ((j / 8 : Nat) : Int)) = true
  · rw [hq]; rfl
  · have : (i / 8 == ((j / 8 : Nat) : Int)) = false := by
      rw [beq_eq_false_iff_ne]
      intro e
      apply hq
      simp only [linesOf, List.mem_map] at h
      obtain ⟨p, hp, he⟩ := h
      exact List.any_eq_true.2 ⟨p, hp, by rw [he, e]; simp⟩
    simp only [List.any_cons, List.any_nil, this, Bool.or_false]

theorem stirred_flush (xs : List Int) (ps qs : List (Int × Int)) (d : Int) (i x : Int) (h0 : 0 ≤ i) (h1 : i < xs.length) : (stirred xs ps qs d).flush i = stirred xs ps (qs ++ [(i, x)]) (d + 1) := by
  rw [PmS.flush, if_pos (stirred_refusal h0 h1)]
  simp only [stirred, PmS.count, flOf_mark _ _ _ x h0]
  rfl

theorem stirred_skip (xs : List Int) (ps qs : List (Int × Int)) (d : Int) (i x : Int) (h : i / 8 ∈ linesOf qs) : stirred xs ps (qs ++ [(i, x)]) d = stirred xs ps qs d := by
  simp only [stirred, flOf_skip _ _ _ _ h]

theorem stirred_fit (xs : List Int) (ps qs : List (Int × Int)) (d : Int) (h0 : 0 ≤ d) (h1 : d < 4611686018427387904) : (stirred xs ps qs d).fit := by
  refine ⟨h0, h1, ?_, ?_⟩ <;> simp [stirred]

theorem stirred_fence (xs : List Int) (ps : List (Int × Int)) (d : Int) (h : ∀ p ∈ ps, 0 ≤ p.1) : (stirred xs ps ps d).fence = calm (putAll xs ps) (d + 1) ∧ (stirred xs ps ps d).fenceE = 0 := by
  have hg : (stirred xs ps ps d).gone = false := rfl
  refine ⟨?_, by rw [PmS.fenceE, hg]; rfl⟩
  rw [PmS.fence, hg, if_neg (by simp)]
  have e1 : fenceTo (stirred xs ps ps d) (stirred xs ps ps d).now.length = putAll xs ps := by
    show (xs.mapIdx fun j x => if j < (putAll xs ps).length ∧ (flOf ((xs.length + 7) / 8 * 8) ps).getD j false = true then (putAll xs ps).getD j 0 else x) = putAll xs ps
    apply List.ext_getElem?
    intro j
    rw [List.getElem?_mapIdx]
    by_cases hj : j < xs.length
    · have h2 : j < (putAll xs ps).length := by rw [putAll_len]; exact hj
      rw [List.getElem?_eq_getElem hj, List.getElem?_eq_getElem h2, Option.map_some]
      by_cases hf : (flOf ((xs.length + 7) / 8 * 8) ps).getD j false = true
      · rw [if_pos ⟨h2, hf⟩, List.getD_eq_getElem?_getD, List.getElem?_eq_getElem h2]; rfl
      · rw [if_neg fun e => hf e.2]
        have := putAll_other ps j xs fun p hp e => by
          apply hf
          have hp0 := h p hp
          rw [flOf, List.getD_eq_getElem?_getD, List.getElem?_map, List.getElem?_range (by omega)]
          simp only [Option.map_some, Option.getD_some, List.any_eq_true]
          exact ⟨p, hp, by simp; omega⟩
        rw [List.getD_eq_getElem?_getD, List.getElem?_eq_getElem h2, List.getD_eq_getElem?_getD, List.getElem?_eq_getElem hj] at this
        simp only [Option.getD_some] at this
        rw [this]
    · rw [List.getElem?_eq_none (by omega), List.getElem?_eq_none (by rw [putAll_len]; omega)]; rfl
  rw [e1]
  simp only [stirred, PmS.count, calm, putAll_len, flOf, List.length_map, List.length_range]
  rfl

theorem calm_refusal {xs : List Int} {d : Int} {i : Int} (h0 : 0 ≤ i) (h1 : i < xs.length) : (calm xs d).refusal i = 0 := by rw [calm_eq]; exact stirred_refusal h0 h1
theorem calm_load {xs : List Int} {d : Int} {i : Int} (h0 : 0 ≤ i) (h1 : i < xs.length) : (calm xs d).load i = xs.getD i.toNat 0 := by rw [PmS.load, if_pos (calm_refusal h0 h1)]; rfl

theorem load_calm {w : World} {b gn gl gf : Nat} {xs : List Int} {d : Int} (h : PmAt w b gn gl gf (calm xs d)) (i : Int) (h0 : 0 ≤ i) (h1 : i < xs.length) :
    Calls Try.prog 23 #[.pointer (some ⟨b, 0, none⟩), .int .i64 i] w fun e w' => e = .returned (.tuple #[.int .u64 (xs.getD i.toNat 0), .int .i64 0]) ∧ w = w' := by
  have := load_at h i
  rw [calm_refusal h0 h1, calm_load h0 h1] at this
  exact this

end Go.Proofs.Ytopljfbgbiipiaa

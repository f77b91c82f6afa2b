/-
  Layer 1: the law PmemEither, walked.
-/
import Derived.Test.YtnjfiaceldkfkaaPmL2
import Derived.Deep.DeepCutAuto
namespace Go.Proofs.Ytnjfiaceldkfkaa
open Go.RowKit

/-- What the law's loop carries: the memory, and the law's own two lists, which lie apart from it. -/
structure EInv (w wx : World) (b gn gl gf : Nat) (s : PmS) (vN : Value) (gN : Nat) (vL : Value) (gL : Nat) (m : Nat) : Prop where
  pm : PmAt wx b gn gl gf s
  len : s.now.length = 50
  fused : s.fused = false
  left : s.left = 0
  deeds : 0 ≤ s.deeds ∧ s.deeds ≤ m
  ownN : Owns wx vN gN 31 1 50 (u64s s.now)
  ownL : Owns wx vL gL 31 1 50 (u64s s.last)
  lo : w.heap.size ≤ b ∧ w.heap.size ≤ gn ∧ w.heap.size ≤ gl ∧ w.heap.size ≤ gf ∧ w.heap.size ≤ gN ∧ w.heap.size ≤ gL
  apart : gN ∉ [b, gn, gl, gf] ∧ gL ∉ [b, gn, gl, gf] ∧ gN ≠ gL
  kept : Keeps [] w wx

theorem EInv.fit {w wx : World} {b gn gl gf : Nat} {s : PmS} {vN : Value} {gN : Nat} {vL : Value} {gL m : Nat} (h : EInv w wx b gn gl gf s vN gN vL gL m) (hm : m ≤ 100000) : s.fit := by
  have := h.deeds
  have := h.left
  exact ⟨by omega, by omega, by omega, by omega⟩

theorem EInv.drew {w wx : World} {b gn gl gf : Nat} {s : PmS} {vN : Value} {gN : Nat} {vL : Value} {gL m : Nat} (h : EInv w wx b gn gl gf s vN gN vL gL m) : EInv w wx.drew b gn gl gf s vN gN vL gL m :=
  ⟨h.pm.drew, h.len, h.fused, h.left, h.deeds, h.ownN.drew, h.ownL.drew, h.lo, h.apart, h.kept.drew⟩

theorem EInv.mono {w wx : World} {b gn gl gf : Nat} {s : PmS} {vN : Value} {gN : Nat} {vL : Value} {gL m m' : Nat} (h : EInv w wx b gn gl gf s vN gN vL gL m) (hm : m ≤ m') : EInv w wx b gn gl gf s vN gN vL gL m' :=
  ⟨h.pm, h.len, h.fused, h.left, ⟨h.deeds.1, by have := h.deeds.2; omega⟩, h.ownN, h.ownL, h.lo, h.apart, h.kept⟩

/-- A call of the memory's own: the law's lists stay. -/
theorem EInv.step {w wx wy : World} {b gn gl gf : Nat} {s s' : PmS} {vN : Value} {gN : Nat} {vL : Value} {gL m : Nat} (h : EInv w wx b gn gl gf s vN gN vL gL m)
    (hp : PmAt wy b gn gl gf s') (hk : Keeps [b, gn, gl, gf] wx wy) (hn : s'.now = s.now) (hl : s'.last = s.last) (hf : s'.fused = false) (h0 : s'.left = 0) (hd : 0 ≤ s'.deeds ∧ s'.deeds ≤ s.deeds + 1) :
    EInv w wy b gn gl gf s' vN gN vL gL (m + 1) := by
  obtain ⟨h1, h2, h3, h4, h5, h6, h7, h8, ⟨h9, h10, h11⟩, h12⟩ := h
  refine ⟨hp, by rw [hn]; exact h2, hf, h0, by omega, by rw [hn]; exact h6.keep hk h9, by rw [hl]; exact h7.keep hk h10, h8, ⟨h9, h10, h11⟩, h12.trans hk ?_⟩
  intro x hx
  simp only [List.mem_cons, List.not_mem_nil, or_false] at hx
  omega

/-- A store that isn't refused, with the law's own. -/
theorem EInv.store {w wx wy : World} {b gn gl gf : Nat} {s : PmS} {vN : Value} {gN : Nat} {vL : Value} {gL m : Nat} (h : EInv w wx b gn gl gf s vN gN vL gL m) (i x : Int) (hr : s.refusal i = 0)
    (hp : PmAt wy b gn gl gf (s.store i x)) (hk : Keeps [b, gn, gl, gf] wx wy) : EInv w (wy.drew.setCell ⟨gN, i.toNat, none⟩ (.int .u64 x)) b gn gl gf (s.store i x) vN gN vL gL (m + 1) := by
  obtain ⟨h1, h2, h3, h4, h5, h6, h7, h8, ⟨h9, h10, h11⟩, h12⟩ := h
  have hs : s.store i x = { s.count with now := s.now.set i.toNat x, fl := s.fl.set i.toNat false } := by rw [PmS.store, if_pos hr]
  have hkN : Keeps [gN] wy (wy.drew.setCell ⟨gN, i.toNat, none⟩ (.int .u64 x)) := ((Keeps.refl _ _).drew).setCell (by simp) _
  have h9' := h9
  simp only [List.mem_cons, List.not_mem_nil, or_false, not_or] at h9'
  refine ⟨hp.keep hkN (by simp; omega) (fun _ => by simp; omega), by rw [hs]; simpa using h2, by rw [hs]; exact h3, by rw [hs]; simp [PmS.count, h3, h4], by rw [hs]; simp [PmS.count]; omega, ?_, ?_, h8, ⟨h9, h10, h11⟩, ?_⟩
  · rw [hs, ← u64s_set]
    exact ((h6.keep hk h9).drew).set _ _
  · rw [hs]
    exact (h7.keep hk h10).keep hkN (by simpa using Ne.symm h11)
  · refine (h12.trans hk ?_).trans hkN ?_
    · intro x hx
      simp only [List.mem_cons, List.not_mem_nil, or_false] at hx
      omega
    · intro x hx
      simp only [List.mem_cons, List.not_mem_nil, or_false] at hx
      omega

/-- All lines are flushed up to j. -/
def FlTo (s : PmS) (j : Nat) : Prop := ∀ k, k < j → k < 50 → s.fl.getD k false = true

theorem FlTo.le {s : PmS} {j : Nat} (h : FlTo s j) {i : Nat} (hi : i ≤ j := by omega) : FlTo s i := fun k hk h5 => h k (by omega) h5

theorem flush_facts {s : PmS} (i : Nat) (h1 : s.now.length = 50) (hf : s.fused = false) (hfl : s.fl.length = 56) (hi : i < 50) :
    (s.flush i).now = s.now ∧ (s.flush i).last = s.last ∧ (s.flush i).fused = false ∧ (s.flush i).left = s.left ∧ (s.flush i).deeds = s.deeds + 1 ∧ (s.flush i).fl.length = 56 ∧ (8 ∣ i → FlTo s i → FlTo (s.flush i) (i + 8)) := by
  have hr : s.refusal i = 0 := by rw [refusal_new _ hf, if_neg (by omega)]
  have hs : s.flush i = { s.count with fl := flTo s.fl (i / 8) 8 } := by rw [PmS.flush, if_pos hr]; simp
  rw [hs]
  refine ⟨rfl, rfl, by simpa [PmS.count] using hf, by simp [PmS.count, hf], rfl, by simpa [flTo_len] using hfl, fun h8 ht k hk hk5 => ?_⟩
  simp only [flTo]
  rw [List.getD_eq_getElem?_getD, List.getElem?_mapIdx, List.getElem?_eq_getElem (by omega)]
  simp only [Option.map_some, Option.getD_some]
  split
  · rfl
  · have := ht k (by omega) hk5
    rw [List.getD_eq_getElem?_getD, List.getElem?_eq_getElem (by omega)] at this
    simpa using this

theorem fence_facts {s : PmS} (h1 : s.now.length = 50) (hl : s.last.length = 50) (hf : s.fused = false) (ht : FlTo s 50) :
    s.fence.now = s.now ∧ s.fence.last = s.now ∧ s.fence.fused = false ∧ s.fence.left = s.left ∧ s.fence.deeds = s.deeds + 1 := by
  have hg : s.gone = false := by simp [PmS.gone, hf]
  rw [PmS.fence, if_neg (by simp [hg])]
  refine ⟨rfl, ?_, by simpa [PmS.count] using hf, by simp [PmS.count, hf], rfl⟩
  apply List.ext_getElem?
  intro j
  simp only [fenceTo, List.getElem?_mapIdx]
  by_cases hj : j < 50
  · rw [List.getElem?_eq_getElem (by omega), List.getElem?_eq_getElem (by omega)]
    simp only [Option.map_some, Option.some.injEq]
    rw [if_pos ⟨by omega, ht j hj hj⟩, List.getD_eq_getElem?_getD, List.getElem?_eq_getElem (by omega)]
    rfl
  · rw [List.getElem?_eq_none (by omega), List.getElem?_eq_none (by omega)]
    rfl

theorem EInv.fll {w wx : World} {b gn gl gf : Nat} {s : PmS} {vN : Value} {gN : Nat} {vL : Value} {gL m : Nat} (h : EInv w wx b gn gl gf s vN gN vL gL m) : s.fl.length = 56 := by
  have := h.pm.fll
  rw [h.len] at this
  exact this

/-- A fence behind all flushes, and the law's list of what lasts made anew. -/
theorem EInv.fenced {w wx wy wz : World} {b gn gl gf : Nat} {s : PmS} {vN : Value} {gN : Nat} {vL : Value} {gL m : Nat} {vL' : Value} {gL' : Nat} (h : EInv w wx b gn gl gf s vN gN vL gL m) (ht : FlTo s 50)
    (hp : PmAt wy b gn gl gf s.fence) (hk : Keeps [b, gn, gl, gf] wx wy) (hkz : Keeps [] wy wz) (ho : Owns wz vL' gL' 31 1 50 (u64s s.now)) (hg : wy.heap.size ≤ gL') :
    EInv w wz b gn gl gf s.fence vN gN vL' gL' (m + 1) := by
  have hll : s.last.length = 50 := by rw [h.pm.ll]; exact h.len
  obtain ⟨f1, f2, f3, f4, f5⟩ := fence_facts h.len hll h.fused ht
  obtain ⟨h1, h2, h3, h4, h5, h6, h7, h8, ⟨h9, h10, h11⟩, h12⟩ := h
  have hN := h6.keep hk h9
  have l0 := (hN.cell (by omega)).1
  obtain ⟨vn, vl, vf, q1, q2, q3, q4⟩ := hp.at_
  rw [f1] at q2 q3 q4
  have l1 := q1.lt
  have l2 := (q2.cell (by omega)).1
  have l3 := (q3.cell (by omega)).1
  have l4 := (q4.cell (by omega)).1
  have hsz := hk.size
  have hsw := h12.size
  refine ⟨hp.keep hkz (by simp) (by simp), by rw [f1]; exact h2, f3, by rw [f4]; exact h4, by rw [f5]; omega, by rw [f1]; exact hN.keep hkz (by simp), by rw [f2]; exact ho, by omega, ⟨h9, ?_, by omega⟩, ?_⟩
  · simp only [List.mem_cons, List.not_mem_nil, or_false]; omega
  · refine (h12.trans hk ?_).trans hkz (by simp)
    intro x hx
    simp only [List.mem_cons, List.not_mem_nil, or_false] at hx
    omega

theorem crashM_self (ks : List Int) : ∀ (l : List Int) (k : Nat), crashM ks l l k = l
  | [], _ => rfl
  | a :: l, k => by simp [crashM, crashM_self ks l k]

/-- Behind a crash: the words, and the law's own, at k. -/
structure After (s : PmS) (M : List Int) : Prop where
  len : M.length = 50
  either : ∀ k, k < 50 → M.getD k 0 = s.last.getD k 0 ∨ (M.getD k 0 ≠ s.last.getD k 0 ∧ M.getD k 0 = s.now.getD k 0)

theorem after_of {s : PmS} (ks : List Int) (h1 : s.now.length = 50) (h2 : s.last.length = 50) : After s (crashM ks s.now s.last 0) := by
  refine ⟨by rw [crashM_len _ _ _ _ (by omega), h1], fun k hk => ?_⟩
  rw [crashM_get _ _ _ _ _ (by omega) (by omega)]
  by_cases e : s.now.getD k 0 = s.last.getD k 0
  · rw [if_pos e]; exact .inl e
  · rw [if_neg e]
    split
    · exact .inr ⟨e, rfl⟩
    · exact .inl rfl

theorem crash_refusal (s : PmS) (ks : List Int) (M : List Int) (hM : (s.crash ks).now = M) (hl : M.length = 50) (k : Nat) (hk : k < 50) : (s.crash ks).refusal (k : Int) = 0 ∧ (s.crash ks).load (k : Int) = M.getD k 0 := by
  have h1 : (s.crash ks).refusal (k : Int) = 0 := by rw [refusal_new _ rfl, hM, hl, if_neg (by omega)]
  exact ⟨h1, by rw [PmS.load, if_pos h1, hM, Int.toNat_natCast]⟩

end Go.Proofs.Ytnjfiaceldkfkaa

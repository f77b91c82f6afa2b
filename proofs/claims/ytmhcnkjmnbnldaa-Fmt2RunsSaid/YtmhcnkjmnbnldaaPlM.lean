/-
  Layer 3 (plog): pairs, their places and lines, what a commit leaves: plain. Nothing of the program is named here.
-/
import Derived.Test.YtmhcnkjmnbnldaaPkM
namespace Go.Proofs.Ytmhcnkjmnbnldaa

/-- The j-th pair's place, and its word. -/
def patN (ps : List (Int × Int)) (j : Nat) : Int := (ps.getD j (0, 0)).1
def pwdN (ps : List (Int × Int)) (j : Nat) : Int := (ps.getD j (0, 0)).2

theorem take_snocP (ps : List (Int × Int)) (k : Nat) (h : k < ps.length) : ps.take (k + 1) = ps.take k ++ [(patN ps k, pwdN ps k)] := by
  have e : (patN ps k, pwdN ps k) = ps[k] := by simp [patN, pwdN, List.getD_eq_getElem?_getD, h]
  rw [e]
  exact List.take_succ_eq_append_getElem h

theorem patN_mem (ps : List (Int × Int)) (k : Nat) (h : k < ps.length) : (patN ps k, pwdN ps k) ∈ ps := by
  have : (patN ps k, pwdN ps k) = ps[k] := by simp [patN, pwdN, List.getD_eq_getElem?_getD, h]
  rw [this]; exact List.getElem_mem h

/-- Words, behind pairs. -/
def putAll (xs : List Int) (ps : List (Int × Int)) : List Int := ps.foldl (fun a p => a.set p.1.toNat p.2) xs

theorem putAll_nil (xs : List Int) : putAll xs [] = xs := rfl
theorem putAll_append (xs : List Int) (ps qs : List (Int × Int)) : putAll xs (ps ++ qs) = putAll (putAll xs ps) qs := by simp [putAll, List.foldl_append]
theorem putAll_one (xs : List Int) (a x : Int) : putAll xs [(a, x)] = xs.set a.toNat x := rfl

theorem putAll_len (ps : List (Int × Int)) : ∀ xs, (putAll xs ps).length = xs.length := by
  induction ps with
  | nil => intro xs; rfl
  | cons p ps ih => intro xs; show (putAll (xs.set p.1.toNat p.2) ps).length = _; rw [ih]; simp

theorem putAll_take_succ (xs : List Int) (ps : List (Int × Int)) (k : Nat) (h : k < ps.length) : putAll xs (ps.take (k + 1)) = (putAll xs (ps.take k)).set (patN ps k).toNat (pwdN ps k) := by
  rw [take_snocP ps k h, putAll_append]; rfl

theorem getD_set_ne {l : List Int} {i j : Nat} (x : Int) (h : i ≠ j) : (l.set i x).getD j 0 = l.getD j 0 := by
  simp [List.getD_eq_getElem?_getD, List.getElem?_set_ne h]
theorem getD_set_eq {l : List Int} {i : Nat} (x : Int) (h : i < l.length) : (l.set i x).getD i 0 = x := by
  simp [List.getD_eq_getElem?_getD, h]
theorem getD_set_any {l : List Int} {i j : Nat} (x : Int) : (l.set i x).getD j 0 = if i = j ∧ j < l.length then x else l.getD j 0 := by
  by_cases h : i = j
  · subst h
    by_cases hl : i < l.length
    · rw [getD_set_eq x hl, if_pos ⟨rfl, hl⟩]
    · rw [if_neg (by omega), List.set_eq_of_length_le (by omega)]
  · rw [getD_set_ne x h, if_neg (by omega)]

theorem putAll_other (ps : List (Int × Int)) (i : Nat) : ∀ xs, (∀ p ∈ ps, p.1.toNat ≠ i) → (putAll xs ps).getD i 0 = xs.getD i 0 := by
  induction ps with
  | nil => intro xs _; rfl
  | cons p ps ih =>
    intro xs h
    show (putAll (xs.set p.1.toNat p.2) ps).getD i 0 = _
    rw [ih _ fun q hq => h q (List.mem_cons_of_mem _ hq), getD_set_ne _ (h p List.mem_cons_self)]

/-- A place where a pair may stand. -/
def placeB (a : Int) : Bool := decide (0 ≤ a) && decide (a < 3128) && (decide (a < 8) || decide (816 ≤ a))

theorem placeB_iff {a : Int} : placeB a = true ↔ 0 ≤ a ∧ a < 3128 ∧ (a < 8 ∨ 816 ≤ a) := by
  simp [placeB, and_assoc]

def goodP (ps : List (Int × Int)) : Bool := ps.all fun p => placeB p.1

theorem goodP_get {ps : List (Int × Int)} (h : goodP ps = true) {k : Nat} (hk : k < ps.length) : 0 ≤ patN ps k ∧ patN ps k < 3128 ∧ (patN ps k < 8 ∨ 816 ≤ patN ps k) := by
  have := List.all_eq_true.1 h _ (patN_mem ps k hk)
  exact placeB_iff.1 this

theorem goodP_mem {ps : List (Int × Int)} (h : goodP ps = true) {p : Int × Int} (hp : p ∈ ps) : 0 ≤ p.1 ∧ p.1 < 3128 ∧ (p.1 < 8 ∨ 816 ≤ p.1) := placeB_iff.1 (List.all_eq_true.1 h _ hp)

/-- The same words, but for the journal's. -/
structure AgreeP (xs ys : List Int) : Prop where
  len : ys.length = xs.length
  get : ∀ i, i < 8 ∨ 816 ≤ i → ys.getD i 0 = xs.getD i 0

theorem AgreeP.refl (xs : List Int) : AgreeP xs xs := ⟨rfl, fun _ _ => rfl⟩
theorem AgreeP.trans {xs ys zs : List Int} (h : AgreeP xs ys) (k : AgreeP ys zs) : AgreeP xs zs := ⟨k.len.trans h.len, fun i hi => (k.get i hi).trans (h.get i hi)⟩

theorem AgreeP.set {xs ys : List Int} (h : AgreeP xs ys) (i : Nat) (x : Int) : AgreeP (xs.set i x) (ys.set i x) := by
  refine ⟨by simp [h.len], fun j hj => ?_⟩
  rw [getD_set_any, getD_set_any, h.len]
  split
  · rfl
  · exact h.get j hj

theorem AgreeP.put (ps : List (Int × Int)) : ∀ {xs ys : List Int}, AgreeP xs ys → AgreeP (putAll xs ps) (putAll ys ps) := by
  induction ps with
  | nil => intro xs ys h; exact h
  | cons p ps ih => intro xs ys h; exact ih (h.set _ _)

theorem AgreeP.log (ps : List (Int × Int)) (xs : List Int) (hp : ∀ p ∈ ps, 8 ≤ p.1.toNat ∧ p.1.toNat < 816) : AgreeP xs (putAll xs ps) :=
  ⟨putAll_len _ _, fun i hi => putAll_other _ _ _ fun p h => by have := hp p h; omega⟩

/-- Pairs as words: a place, then its word. -/
def wordsN (ps : List (Int × Int)) : List Int := ps.flatMap fun p => [p.1 % 18446744073709551616, p.2]

theorem wordsN_len (ps : List (Int × Int)) : (wordsN ps).length = 2 * ps.length := by
  induction ps with
  | nil => rfl
  | cons p ps ih => simp [wordsN] at ih ⊢; omega

theorem wordsN_append (ps qs : List (Int × Int)) : wordsN (ps ++ qs) = wordsN ps ++ wordsN qs := by simp [wordsN]

theorem wordsN_take_succ (ps : List (Int × Int)) (k : Nat) (h : k < ps.length) : wordsN (ps.take (k + 1)) = wordsN (ps.take k) ++ [patN ps k % 18446744073709551616, pwdN ps k] := by
  rw [take_snocP ps k h, wordsN_append]; rfl

theorem wordsN_get (ps : List (Int × Int)) : ∀ k, k < ps.length → (wordsN ps).getD (2 * k) 0 = patN ps k % 18446744073709551616 ∧ (wordsN ps).getD (2 * k + 1) 0 = pwdN ps k := by
  induction ps with
  | nil => intro k h; simp at h
  | cons p ps ih =>
    intro k h
    have hc : wordsN (p :: ps) = p.1 % 18446744073709551616 :: p.2 :: wordsN ps := rfl
    cases k with
    | zero => rw [hc]; exact ⟨rfl, rfl⟩
    | succ k =>
      have := ih k (by simpa using h)
      rw [hc]
      simp only [patN, pwdN, List.getD_eq_getElem?_getD, show 2 * (k + 1) = 2 * k + 1 + 1 by omega, List.getElem?_cons_succ] at this ⊢
      exact this

/-- The bounds of pairs' numbers. -/
def okP (ps : List (Int × Int)) : Prop := ∀ p ∈ ps, (-9223372036854775808 ≤ p.1 ∧ p.1 ≤ 9223372036854775807) ∧ 0 ≤ p.2 ∧ p.2 ≤ 18446744073709551615

theorem okP_get {ps : List (Int × Int)} (h : okP ps) {k : Nat} (hk : k < ps.length) : (-9223372036854775808 ≤ patN ps k ∧ patN ps k ≤ 9223372036854775807) ∧ 0 ≤ pwdN ps k ∧ pwdN ps k ≤ 18446744073709551615 := h _ (patN_mem ps k hk)

def u64P (xs : List Int) : Prop := ∀ x ∈ xs, 0 ≤ x ∧ x ≤ 18446744073709551615

theorem wordsN_u64 {ps : List (Int × Int)} (h : okP ps) : u64P (wordsN ps) := by
  intro x hx
  simp only [wordsN, List.mem_flatMap, List.mem_cons, List.not_mem_nil, or_false] at hx
  obtain ⟨p, hp, hx⟩ := hx
  have := h p hp
  omega

theorem u64P_get {xs : List Int} (h : u64P xs) (k : Nat) : 0 ≤ xs.getD k 0 ∧ xs.getD k 0 ≤ 18446744073709551615 := by
  rw [List.getD_eq_getElem?_getD]
  cases hk : xs[k]? with
  | none => simp
  | some x => exact h x (List.mem_of_getElem? hk)

/-- Whether each pair's first word is a place. -/
def placesB (ws : List Int) (m : Nat) : Bool := (List.range m).all fun k => placeB (ws.getD (2 * k) 0)

theorem placesB_wordsN {ps : List (Int × Int)} (h : okP ps) : placesB (wordsN ps) ps.length = goodP ps := by
  have e1 : ∀ k, k < ps.length → placeB ((wordsN ps).getD (2 * k) 0) = placeB (patN ps k) := by
    intro k hk
    rw [(wordsN_get ps k hk).1, Bool.eq_iff_iff, placeB_iff, placeB_iff]
    have := okP_get h hk
    omega
  rw [Bool.eq_iff_iff]
  unfold placesB goodP
  rw [List.all_eq_true, List.all_eq_true]
  constructor
  · intro h2 p hp
    obtain ⟨k, hk, rfl⟩ := List.getElem_of_mem hp
    have := h2 k (by simpa using hk)
    rw [e1 k hk] at this
    simpa [patN, List.getD_eq_getElem?_getD, hk] using this
  · intro h2 k hk
    rw [List.mem_range] at hk
    rw [e1 k hk]
    exact h2 _ (patN_mem ps k hk)

/-- Words with their places in the journal. -/
def logN (ws : List Int) : List (Int × Int) := ws.mapIdx fun k w => ((9 + k : Int), w)

theorem logN_len (ws : List Int) : (logN ws).length = ws.length := by simp [logN]
theorem logN_get (ws : List Int) (k : Nat) (h : k < ws.length) : patN (logN ws) k = 9 + (k : Int) ∧ pwdN (logN ws) k = ws.getD k 0 := by
  simp [patN, pwdN, logN, List.getD_eq_getElem?_getD, h]
theorem logN_mem {ws : List Int} {p : Int × Int} (h : p ∈ logN ws) : 9 ≤ p.1 ∧ p.1 < 9 + ws.length := by
  obtain ⟨k, hk, rfl⟩ := List.getElem_of_mem h
  have hk' : k < ws.length := by simpa [logN] using hk
  simp [logN]
  omega

/-- The commit word of so many words. -/
def markN (ws : List Int) : Int := (ws.length / 2 : Nat) * 4294967296 + (sumN (ws.map Int.toNat) : Nat)

/-- Lines that are flushed: how many of the first k are fresh. -/
def linesTo (f : List Int) : Nat → Nat
  | 0 => 0
  | k + 1 => linesTo f k + if f.getD k 0 ∈ f.take k then 0 else 1

def linesOf (ps : List (Int × Int)) : List Int := ps.map fun p => p.1 / 8
def linesN (ps : List (Int × Int)) : Nat := linesTo (linesOf ps) ps.length

theorem linesOf_get (ps : List (Int × Int)) (k : Nat) (h : k < ps.length) : (linesOf ps).getD k 0 = patN ps k / 8 := by
  simp [linesOf, patN, List.getD_eq_getElem?_getD, h]
theorem linesOf_take (ps : List (Int × Int)) (k : Nat) : (linesOf ps).take k = linesOf (ps.take k) := by simp [linesOf, List.map_take]
theorem linesOf_snoc (ps : List (Int × Int)) (k : Nat) (h : k < ps.length) : (linesOf ps).take (k + 1) = (linesOf ps).take k ++ [patN ps k / 8] := by
  rw [linesOf_take, linesOf_take, take_snocP ps k h]; simp [linesOf]
theorem linesTo_le (f : List Int) : ∀ k, linesTo f k ≤ k
  | 0 => Nat.le_refl _
  | k + 1 => by
    have := linesTo_le f k
    unfold linesTo
    split <;> omega

theorem logN_lines (ws : List Int) : ∀ k, k ≤ ws.length → linesTo (linesOf (logN ws)) k = if k = 0 then 0 else (k + 8) / 8 := by
  intro k
  induction k with
  | zero => intro _; rfl
  | succ k ih =>
    intro h
    rw [linesTo, ih (by omega), linesOf_get _ _ (by rw [logN_len]; omega), (logN_get ws k (by omega)).1, if_neg (show k + 1 ≠ 0 by omega)]
    have hm : ((9 + (k : Int)) / 8 ∈ (linesOf (logN ws)).take k) ↔ (k ≠ 0 ∧ (9 + k - 1) / 8 = (9 + k) / 8) := by
      rw [List.mem_take_iff_getElem]
      constructor
      · rintro ⟨j, hj, he⟩
        have hj' : j < k := by omega
        have := linesOf_get (logN ws) j (by rw [logN_len]; omega)
        rw [(logN_get ws j (by omega)).1, List.getD_eq_getElem?_getD, List.getElem?_eq_getElem (by simp [linesOf, logN_len]; omega)] at this
        simp only [Option.getD_some] at this
        rw [this] at he
        omega
      · rintro ⟨h0, he⟩
        refine ⟨k - 1, by simp [linesOf, logN_len]; omega, ?_⟩
        have := linesOf_get (logN ws) (k - 1) (by rw [logN_len]; omega)
        rw [(logN_get ws (k - 1) (by omega)).1, List.getD_eq_getElem?_getD, List.getElem?_eq_getElem (by simp [linesOf, logN_len]; omega)] at this
        simp only [Option.getD_some] at this
        rw [this]
        omega
    simp only [hm]
    split <;> split <;> omega

/-- How many deeds it takes to let pairs last. -/
def settleD (ps : List (Int × Int)) : Nat := ps.length + linesN ps + 1
def deedsN (ps : List (Int × Int)) : Nat := if ps = [] then 0 else settleD (logN (wordsN ps)) + 3 + settleD ps + 3

theorem settleD_le (ps : List (Int × Int)) : settleD ps ≤ 2 * ps.length + 1 := by
  have := linesTo_le (linesOf ps) ps.length
  unfold settleD linesN
  omega
theorem settleD_one (a x : Int) : settleD [(a, x)] = 3 := by simp [settleD, linesN, linesTo]

theorem deedsN_le (ps : List (Int × Int)) : deedsN ps ≤ 6 * ps.length + 8 := by
  have h1 := settleD_le ps
  have h2 := settleD_le (logN (wordsN ps))
  rw [logN_len, wordsN_len] at h2
  unfold deedsN
  split <;> omega

/-- A memory's words, behind a commit. -/
def carryX (xs : List Int) (ps : List (Int × Int)) : List Int := putAll (putAll xs ps) [(8, 0)]
def commitX (xs : List Int) (ps : List (Int × Int)) : List Int := if ps = [] then xs else carryX (putAll (putAll xs (logN (wordsN ps))) [(8, markN (wordsN ps))]) ps

theorem carryX_len (xs : List Int) (ps : List (Int × Int)) : (carryX xs ps).length = xs.length := by rw [carryX, putAll_len, putAll_len]
theorem carryX_8 (xs : List Int) (ps : List (Int × Int)) (h : 8 < xs.length) : (carryX xs ps).getD 8 0 = 0 := by
  rw [carryX, putAll_one]
  exact getD_set_eq _ (by rw [putAll_len]; exact h)
theorem carryX_agree (xs : List Int) (ps : List (Int × Int)) : AgreeP (putAll xs ps) (carryX xs ps) := AgreeP.log _ _ (by simp)

theorem commitX_len (xs : List Int) (ps : List (Int × Int)) : (commitX xs ps).length = xs.length := by
  unfold commitX
  split
  · rfl
  · rw [carryX_len, putAll_len, putAll_len]

theorem commitX_agree (xs : List Int) (ps : List (Int × Int)) (h : ps.length ≤ 400) : AgreeP (putAll xs ps) (commitX xs ps) := by
  unfold commitX
  split
  · rename_i h; rw [h]; exact AgreeP.refl _
  · refine AgreeP.trans (AgreeP.put ps ?_) (carryX_agree _ ps)
    refine AgreeP.trans (AgreeP.log (logN (wordsN ps)) xs ?_) (AgreeP.log _ _ (by simp))
    intro p hp
    have := logN_mem hp
    rw [wordsN_len] at this
    omega

theorem commitX_8 (xs : List Int) (ps : List (Int × Int)) (h : 8 < xs.length) (h0 : xs.getD 8 0 = 0) : (commitX xs ps).getD 8 0 = 0 := by
  unfold commitX
  split
  · exact h0
  · exact carryX_8 _ _ (by rw [putAll_len, putAll_len]; exact h)

end Go.Proofs.Ytmhcnkjmnbnldaa

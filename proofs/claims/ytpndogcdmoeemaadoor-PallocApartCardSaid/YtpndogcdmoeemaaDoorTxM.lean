/-
  Layer 4 (tx): a sheet as plain lists: words beneath, puts, notes of what was there. Nothing of the program is named here.
-/
import Derived.Test.YtpndogcdmoeemaaDoorCel
namespace Go.Proofs.YtpndogcdmoeemaaDoor

/-- The first 3128 words, and noughts where there are fewer. -/
def padW (ws : List Int) : List Int := ws.take 3128 ++ List.replicate (3128 - ws.length) 0

theorem padW_len (ws : List Int) : (padW ws).length = 3128 := by simp only [padW, List.length_append, List.length_take, List.length_replicate]; omega

theorem padW_get (ws : List Int) (i : Nat) : (padW ws).getD i 0 = if i < 3128 then ws.getD i 0 else 0 := by
  simp only [padW, List.getD_eq_getElem?_getD, List.getElem?_append, List.length_take, List.getElem?_take, List.getElem?_replicate]
  by_cases h : i < 3128
  · by_cases h2 : i < ws.length
    · rw [if_pos (by omega), if_pos h, if_pos h]
    · rw [if_neg (by omega), if_pos (by omega), if_pos h, List.getElem?_eq_none (by omega)]; rfl
  · rw [if_neg (by omega), if_neg (by omega), if_neg h]; rfl

theorem inP_append {ps qs : List (Int × Int)} {n : Nat} (h : inP ps n) (k : inP qs n) : inP (ps ++ qs) n := fun p hp => (List.mem_append.1 hp).elim (h p) (k p)
theorem inP_take {ps : List (Int × Int)} {n : Nat} (h : inP ps n) (m : Nat) : inP (ps.take m) n := fun p hp => h p (List.mem_of_mem_take hp)
theorem inP_nil (n : Nat) : inP [] n := fun p hp => by simp at hp
theorem inP_one {i x : Int} {n : Nat} (h0 : 0 ≤ i) (h1 : i < n) : inP [(i, x)] n := fun p hp => by
  rw [List.mem_singleton] at hp
  subst hp
  exact ⟨h0, h1⟩

/-- What was there ahead of each put. -/
def notesN (B : List Int) (ps : List (Int × Int)) : List (Int × Int) := (List.range ps.length).map fun k => (patN ps k, (putAll B (ps.take k)).getD (patN ps k).toNat 0)

theorem notesN_len (B : List Int) (ps : List (Int × Int)) : (notesN B ps).length = ps.length := by simp [notesN]

theorem notesN_get (B : List Int) (ps : List (Int × Int)) (k : Nat) (h : k < ps.length) : patN (notesN B ps) k = patN ps k ∧ pwdN (notesN B ps) k = (putAll B (ps.take k)).getD (patN ps k).toNat 0 := by
  have e : (notesN B ps).getD k (0, 0) = (patN ps k, (putAll B (ps.take k)).getD (patN ps k).toNat 0) := by
    rw [List.getD_eq_getElem?_getD, notesN, List.getElem?_map, List.getElem?_range h]; rfl
  rw [patN, pwdN, e]
  exact ⟨rfl, rfl⟩

theorem patN_append_left {ps qs : List (Int × Int)} {k : Nat} (h : k < ps.length) : patN (ps ++ qs) k = patN ps k := by
  simp [patN, List.getD_eq_getElem?_getD, List.getElem?_append, h]

theorem notesN_snoc (B : List Int) (ps : List (Int × Int)) (i x : Int) : notesN B (ps ++ [(i, x)]) = notesN B ps ++ [(i, (putAll B ps).getD i.toNat 0)] := by
  have e0 : patN (ps ++ [(i, x)]) ps.length = i := by simp [patN, List.getD_eq_getElem?_getD]
  unfold notesN
  rw [List.length_append, List.length_singleton, List.range_succ, List.map_append, List.map_singleton, e0, List.take_left]
  congr 1
  apply List.map_congr_left
  intro k hk
  rw [List.mem_range] at hk
  rw [patN_append_left hk, List.take_append_of_le_length (by omega)]

theorem patN_take {ps : List (Int × Int)} {k m : Nat} (h : k < m) : patN (ps.take m) k = patN ps k := by
  simp [patN, List.getD_eq_getElem?_getD, h]

theorem notesN_take (B : List Int) (ps : List (Int × Int)) (m : Nat) (h : m ≤ ps.length) : (notesN B ps).take m = notesN B (ps.take m) := by
  unfold notesN
  rw [← List.map_take, List.take_range, List.length_take, Nat.min_eq_left h]
  apply List.map_congr_left
  intro k hk
  rw [List.mem_range] at hk
  rw [patN_take hk, List.take_take, Nat.min_eq_left (by omega)]

theorem set_set_getD (l : List Int) (i : Nat) (x : Int) : (l.set i x).set i (l.getD i 0) = l := by
  rw [List.set_set]
  exact set_getD_self l i 0

/-- The last put is undone. -/
theorem undo_put (B : List Int) (ps : List (Int × Int)) (k : Nat) (h : k < ps.length) :
    (putAll B (ps.take (k + 1))).set (patN ps k).toNat ((putAll B (ps.take k)).getD (patN ps k).toNat 0) = putAll B (ps.take k) := by
  rw [putAll_take_succ B ps k h]
  exact set_set_getD _ _ _

/-- How many puts Back leaves. -/
def backN (m : Int) (n : Nat) : Nat := (min (max m 0) (n : Int)).toNat

theorem backN_le (m : Int) (n : Nat) : backN m n ≤ n := by unfold backN; omega
theorem backN_int (m : Int) (n : Nat) : ((backN m n : Nat) : Int) = min (max m 0) (n : Int) := by unfold backN; omega

/-- A word behind puts: 0 of no place. -/
def getN (B : List Int) (ps : List (Int × Int)) (i : Int) : Int := if 0 ≤ i ∧ i < 3128 then (putAll B ps).getD i.toNat 0 else 0

def inB (i : Int) : Bool := decide (0 ≤ i) && decide (i < 3128)
theorem inB_iff {i : Int} : inB i = true ↔ 0 ≤ i ∧ i < 3128 := by simp [inB]

/-- The places below k whose word isn't as it was beneath, rising, with what it is. -/
def diffTo (B X : List Int) (k : Nat) : List (Int × Int) := ((List.range k).filter fun i => X.getD i 0 != B.getD i 0).map fun (i : Nat) => ((i : Int), X.getD i 0)

theorem diffTo_zero (B X : List Int) : diffTo B X 0 = [] := rfl
theorem diffTo_same (B X : List Int) (k : Nat) (h : X.getD k 0 = B.getD k 0) : diffTo B X (k + 1) = diffTo B X k := by
  unfold diffTo
  rw [List.range_succ, List.filter_append]
  have : (X.getD k 0 != B.getD k 0) = false := by simpa using h
  simp only [List.filter_cons, this, List.filter_nil]
  simp
theorem diffTo_new (B X : List Int) (k : Nat) (h : X.getD k 0 ≠ B.getD k 0) : diffTo B X (k + 1) = diffTo B X k ++ [((k : Int), X.getD k 0)] := by
  unfold diffTo
  rw [List.range_succ, List.filter_append]
  have : (X.getD k 0 != B.getD k 0) = true := by simpa using h
  simp only [List.filter_cons, this, List.filter_nil]
  simp
theorem diffTo_len (B X : List Int) (k : Nat) : (diffTo B X k).length ≤ k := by
  unfold diffTo
  rw [List.length_map]
  have := List.length_filter_le (fun i => X.getD i 0 != B.getD i 0) (List.range k)
  simpa using this

theorem diffTo_prefix (B X : List Int) (k m : Nat) (h : k ≤ m) : ∃ r, diffTo B X m = diffTo B X k ++ r := by
  induction m with
  | zero => exact ⟨[], by rw [show k = 0 by omega, List.append_nil]⟩
  | succ m ih =>
    by_cases e : k = m + 1
    · subst e; exact ⟨[], by simp⟩
    · obtain ⟨r, hr⟩ := ih (by omega)
      by_cases hx : X.getD m 0 = B.getD m 0
      · exact ⟨r, by rw [diffTo_same B X m hx, hr]⟩
      · exact ⟨r ++ [((m : Int), X.getD m 0)], by rw [diffTo_new B X m hx, hr, List.append_assoc]⟩

/-- Where the k-th place is otherwise it is the next one of all. -/
theorem diffTo_at (B X : List Int) (k m : Nat) (h : k < m) (hx : X.getD k 0 ≠ B.getD k 0) :
    (diffTo B X k).length < (diffTo B X m).length ∧ patN (diffTo B X m) (diffTo B X k).length = (k : Int) ∧ pwdN (diffTo B X m) (diffTo B X k).length = X.getD k 0 := by
  obtain ⟨r, hr⟩ := diffTo_prefix B X (k + 1) m (by omega)
  rw [diffTo_new B X k hx, List.append_assoc] at hr
  rw [hr]
  refine ⟨by simp, ?_, ?_⟩
  · simp [patN, List.getD_eq_getElem?_getD]
  · simp [pwdN, List.getD_eq_getElem?_getD]

end Go.Proofs.YtpndogcdmoeemaaDoor

/-
  Layer 7 (fmt2), plain: the runs of thirteen numbers. Nothing of the program is named here.
-/
import Derived.Test.YtmhcnkjmnbnldaaArM
namespace Go.Proofs.Ytmhcnkjmnbnldaa
open Go.RowKit

/-- A block's number. -/
def isB (x : Int) : Prop := 0 < x ∧ x < 256

instance (x : Int) : Decidable (isB x) := by unfold isB; infer_instance

/-- The j-th number goes on where the one ahead of it ended. -/
def contP (l : List Int) (j : Nat) : Prop := 0 < j ∧ j < 13 ∧ isB (l.getD j 0) ∧ isB (l.getD (j - 1) 0) ∧ l.getD j 0 = l.getD (j - 1) 0 + 1

instance (l : List Int) (j : Nat) : Decidable (contP l j) := by unfold contP; infer_instance

/-- Behind the run that goes on up to e. -/
def endAt (l : List Int) : Nat → Nat → Nat
  | 0, e => e
  | f + 1, e => if contP l e then endAt l f (e + 1) else e

theorem endAt_is (l : List Int) (j : Nat) (hj : ¬ contP l j) : ∀ (f e : Nat), e ≤ j → j - e ≤ f → (∀ i, e ≤ i → i < j → contP l i) → endAt l f e = j
  | 0, e, h1, h2, _ => by unfold endAt; omega
  | f + 1, e, h1, h2, h3 => by
    unfold endAt
    by_cases h : e = j
    · subst h; rw [if_neg hj]
    · rw [if_pos (h3 e (Nat.le_refl _) (by omega))]
      exact endAt_is l j hj f (e + 1) (by omega) (by omega) fun i hi hi2 => h3 i (by omega) hi2

/-- A run begins at k. -/
def startP (l : List Int) (k : Nat) : Prop := isB (l.getD k 0) ∧ ¬ contP l k

instance (l : List Int) (k : Nat) : Decidable (startP l k) := by unfold startP; infer_instance

/-- How many blocks it has. -/
def lenAt (l : List Int) (k : Nat) : Nat := endAt l 13 (k + 1) - k

/-- A run's word. -/
def runW (k : Nat) (b : Int) (n : Nat) : Int := (k : Int) * 4294967296 + b * 256 + (n : Int)

/-- The words of the runs that begin ahead of k. -/
def runsTo (l : List Int) : Nat → List Int
  | 0 => []
  | k + 1 => if startP l k then runsTo l k ++ [runW k (l.getD k 0) (lenAt l k)] else runsTo l k

def runsL (l : List Int) : List Int := runsTo l 13

theorem runsTo_len (l : List Int) : ∀ k, (runsTo l k).length ≤ k
  | 0 => by simp [runsTo]
  | k + 1 => by
    unfold runsTo
    have := runsTo_len l k
    split
    · rw [List.length_append, List.length_singleton]; omega
    · omega

/-- Where one has gone on, no run begins. -/
theorem runsTo_cont (l : List Int) (f : Nat) : ∀ j, f ≤ j → (∀ i, f ≤ i → i < j → contP l i) → runsTo l j = runsTo l f
  | 0, h, _ => by have : f = 0 := by omega
                  subst this; rfl
  | j + 1, h, hc => by
    by_cases e : f = j + 1
    · subst e; rfl
    · rw [runsTo, if_neg (fun hs => hs.2 (hc j (by omega) (by omega)))]
      exact runsTo_cont l f j (by omega) fun i h1 h2 => hc i h1 (by omega)

/-- One run more. -/
theorem runsTo_run {l : List Int} {f j : Nat} (hs : startP l f) (hfj : f < j) (hj : j ≤ 13) (hc : ∀ i, f < i → i < j → contP l i) (hn : ¬ contP l j) : runsTo l j = runsTo l f ++ [runW f (l.getD f 0) (j - f)] := by
  rw [runsTo_cont l (f + 1) j (by omega) (fun i h1 h2 => hc i (by omega) h2), runsTo, if_pos hs, lenAt, endAt_is l j hn 13 (f + 1) (by omega) (by omega) fun i h1 h2 => hc i (by omega) h2]

theorem runsTo_none {l : List Int} {f : Nat} (h : ¬ isB (l.getD f 0)) : runsTo l (f + 1) = runsTo l f := by
  rw [runsTo, if_neg (fun hs => h hs.1)]

/-- In a run each number is its first one and how far it is on. -/
theorem run_num {l : List Int} {f j : Nat} (hc : ∀ i, f < i → i < j → contP l i) : ∀ i, f ≤ i → i < j → l.getD i 0 = l.getD f 0 + ((i - f : Nat) : Int) := by
  intro i
  induction i with
  | zero => intro h _; have : f = 0 := by omega
            subst this; simp
  | succ i ih =>
    intro h1 h2
    by_cases e : f = i + 1
    · subst e; simp
    · have h := (hc (i + 1) (by omega) h2).2.2.2.2
      rw [Nat.add_sub_cancel] at h
      rw [h, ih (by omega) (by omega)]
      omega

theorem run_isB {l : List Int} {f j : Nat} (hs : isB (l.getD f 0)) (hc : ∀ i, f < i → i < j → contP l i) (i : Nat) (h1 : f ≤ i) (h2 : i < j) : isB (l.getD i 0) := by
  by_cases e : f = i
  · subst e; exact hs
  · exact (hc i (by omega) h2).2.2.1

/-- Whether the next number belongs to the run: as it is asked with the number ahead of it. -/
theorem cont_iff {l : List Int} {f j : Nat} (hs : isB (l.getD f 0)) (hfj : f < j) (hc : ∀ i, f < i → i < j → contP l i) : contP l j ↔ j < 13 ∧ isB (l.getD j 0) ∧ l.getD j 0 = l.getD (j - 1) 0 + 1 := by
  unfold contP
  exact ⟨fun h => ⟨h.2.1, h.2.2.1, h.2.2.2.2⟩, fun h => ⟨by omega, h.1, h.2.1, run_isB hs hc _ (by omega) (by omega), h.2.2⟩⟩

/-- .. as it is asked with the first number. -/
theorem cont_iff2 {l : List Int} {f j : Nat} (hs : isB (l.getD f 0)) (hfj : f < j) (hc : ∀ i, f < i → i < j → contP l i) : contP l j ↔ j < 13 ∧ l.getD j 0 = l.getD f 0 + ((j - f : Nat) : Int) ∧ l.getD f 0 + ((j - f : Nat) : Int) < 256 := by
  rw [cont_iff hs hfj hc]
  have h1 := run_num hc (j - 1) (by omega) (by omega)
  have h2 := run_isB hs hc (j - 1) (by omega) (by omega)
  unfold isB at *
  omega

end Go.Proofs.Ytmhcnkjmnbnldaa

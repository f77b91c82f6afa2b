/-
  Layer 8, the reference's table: Do. Layer 8: an inode without its blocks (empty); the law InodeSpace: the sheet behind each call. Layer 8, plain: the words behind a row of operations, held against the reference's table.
-/
import Derived.Test.YtlfkodlnhfdgjaaGreatDoorG14
import Derived.Test.YtlfkodlnhfdgjaaGreatDoorG15
import Derived.Test.YtlfkodlnhfdgjaaGreatDoorG03
import Derived.Test.YtlfkodlnhfdgjaaGreatDoorG07
import Derived.Test.YtlfkodlnhfdgjaaGreatDoorG08
namespace Go.Proofs.YtlfkodlnhfdgjaaGreatDoor
open Go.RowKit

end Go.Proofs.YtlfkodlnhfdgjaaGreatDoor

namespace Go.Proofs.YtlfkodlnhfdgjaaGreatDoor
open Go.RowKit

/-- The inode without blocks. -/
def emp (n : Ino) : Ino := { n with B := List.replicate 13 0 }

end Go.Proofs.YtlfkodlnhfdgjaaGreatDoor

namespace Go.Proofs.YtlfkodlnhfdgjaaGreatDoor
open Go.RowKit

/-- The words are those of the table. -/
structure PlayP (X : List Int) (T : List (Ino × Value)) (own : Nat → List Nat) (room : Nat) : Prop where
  w64 : In64 X
  len : X.length = 3128
  each : ∀ i : Nat, i < 32 → ((nT T i).F = 0 ∧ FreeP X (i : Int) ∧ own i = []) ∨ (0 < (nT T i).F ∧ StoreP X (i : Int) (nT T i) (own i) ∧ filesL (nT T i) = [])
  apart : ∀ i j : Nat, i < 32 → j < 32 → i ≠ j → ∀ c ∈ own i, c ∉ own j
  used : ∀ i : Nat, i < 32 → ∀ c ∈ own i, usedN X c = true
  count : (freeL X).length + sumTo T 32 = room

theorem PlayP.right {X : List Int} {T : List (Ino × Value)} {own : Nat → List Nat} {room : Nat} (h : PlayP X T own room) : TabR T := fun i hi hf => by
  rcases h.each i hi with ⟨h1, -⟩ | ⟨-, h2, -⟩
  · omega
  · exact h2.right

theorem PlayP.ownLen {X : List Int} {T : List (Ino × Value)} {own : Nat → List Nat} {room : Nat} (h : PlayP X T own room) {j : Nat} (hj : j < 32) : (own j).length = needT T j := by
  unfold needT
  rcases h.each j hj with ⟨h1, -, h3⟩ | ⟨h1, h2, -⟩
  · rw [h3, if_neg (by omega)]; rfl
  · rw [if_pos h1, h2.ownLen]

theorem PlayP.give {X : List Int} {T : List (Ino × Value)} {own : Nat → List Nat} {room : Nat} (h : PlayP X T own room) {j : Nat} (hj : j < 32) : (freeL (putAll X (givePs X (own j)))).length = (freeL X).length + needT T j := by
  rw [← h.ownLen hj]
  rcases h.each j hj with ⟨-, -, h3⟩ | ⟨-, h2, -⟩
  · rw [h3]; rfl
  · exact free_give h2.mem h2.nodup (h.used j hj) (givePs_state (own j) X h.w64 h.len).2.1

theorem sumTo_set {T : List (Ino × Value)} {j : Nat} (hj : j < T.length) (n : Ino) (v : Value) : ∀ k, (k ≤ j → sumTo (T.set j (n, v)) k = sumTo T k) ∧ (j < k → sumTo (T.set j (n, v)) k + needT T j = sumTo T k + needT (T.set j (n, v)) j)
  | 0 => ⟨fun _ => rfl, fun h => by omega⟩
  | k + 1 => by
    obtain ⟨h1, h2⟩ := sumTo_set hj n v k
    have hne : ∀ i, i ≠ j → needT (T.set j (n, v)) i = needT T i := fun i hi => by
      have e : nT (T.set j (n, v)) i = nT T i := by rw [nT_set hj, if_neg (fun e => hi e.symm)]
      unfold needT
      rw [e]
    refine ⟨fun h => ?_, fun h => ?_⟩
    · show sumTo _ k + needT _ k = sumTo T k + needT T k
      rw [h1 (by omega), hne k (by omega)]
    · show (sumTo _ k + needT _ k) + needT T j = (sumTo T k + needT T k) + _
      by_cases hkj : k = j
      · subst hkj
        rw [h1 (Nat.le_refl _)]
        omega
      · have := h2 (by omega)
        rw [hne k hkj]
        omega

theorem needT_set {T : List (Ino × Value)} {j : Nat} (hj : j < T.length) (n : Ino) (v : Value) : needT (T.set j (n, v)) j = if 0 < n.F then needA n else 0 := by
  unfold needT
  rw [nT_set hj, if_pos rfl]

theorem PlayP.put {X X' : List Int} {T : List (Ino × Value)} {own : Nat → List Nat} {room : Nat} (h : PlayP X T own room) (hT : T.length = 32) {j : Nat} (hj : j < 32) {n : Ino} (v : Value) (hR : RightP n) (hf : filesL n = []) {own' : List Nat} (he : PutEff X (j : Int) n (own j) X' own') :
    PlayP X' (T.set j (n, v)) (fun i => if i = j then own' else own i) room := by
  have hjT : j < T.length := by omega
  have hF : 0 < n.F := by have := hR.1; omega
  have hg := h.give hj
  have hm := he.st.mem
  refine ⟨he.w64, he.len, fun i hi => ?_, fun a b ha hb hab c hc hc' => ?_, fun i hi c hc => ?_, ?_⟩
  · rw [nT_set hjT]
    by_cases hij : i = j
    · subst hij
      rw [if_pos rfl]
      exact .inr ⟨hF, by simpa using he.st, hf⟩
    · rw [if_neg (fun e => hij e.symm)]
      simp only [if_neg hij]
      rcases h.each i hi with ⟨h1, h2, h3⟩ | ⟨h1, h2, h3⟩
      · exact .inl ⟨h1, he.free_keeps h2 ⟨by omega, by omega⟩ (by omega), h3⟩
      · exact .inr ⟨h1, he.keeps h2 (by omega) (h.used i hi) (h.apart i j hi hj hij), h3⟩
  · have key : ∀ i, i < 32 → i ≠ j → ∀ c ∈ own i, c ∉ own' := fun i hi hij c hc hc' => by
      have h1 := he.free c hc'
      rw [h.used i hi c hc] at h1
      have h2 := h.apart i j hi hj hij c hc
      simp [h2] at h1
    by_cases haj : a = j
    · subst haj
      rw [if_pos rfl] at hc
      rw [if_neg (fun e => hab e.symm)] at hc'
      exact key b hb (fun e => hab e.symm) c hc' hc
    · rw [if_neg haj] at hc
      by_cases hbj : b = j
      · rw [if_pos hbj] at hc'
        exact key a ha haj c hc hc'
      · rw [if_neg hbj] at hc'
        exact h.apart a b ha hb hab c hc hc'
  · by_cases hij : i = j
    · rw [if_pos hij] at hc
      have := hm c hc
      rw [he.used c this.2 this.1]
      simp [hc]
    · rw [if_neg hij] at hc
      have hcc : c ≠ 0 ∧ c < 256 := by
        rcases h.each i hi with ⟨-, -, h3⟩ | ⟨-, h2, -⟩
        · rw [h3] at hc; simp at hc
        · exact h2.mem c hc
      rw [he.used c hcc.2 hcc.1, h.used i hi c hc]
      simp [h.apart i j hi hj hij c hc]
  · have h1 := (sumTo_set hjT n v 32).2 hj
    rw [needT_set hjT, if_pos hF] at h1
    have h2 := he.count
    have h3 := h.count
    omega

theorem PlayP.drop {X : List Int} {T : List (Ino × Value)} {own : Nat → List Nat} {room : Nat} (h : PlayP X T own room) (hT : T.length = 32) {j : Nat} (hj : j < 32) (hf : 0 < (nT T j).F) :
    PlayP (putAll X (dropPs X j (nT T j) (own j))) (T.set j (inoZ, .slice none 0 0)) (fun i => if i = j then [] else own i) room := by
  have hjT : j < T.length := by omega
  obtain ⟨hst, hfl⟩ : StoreP X (j : Int) (nT T j) (own j) ∧ filesL (nT T j) = [] := by
    rcases h.each j hj with ⟨h1, -⟩ | ⟨-, h2, h3⟩
    · omega
    · exact ⟨h2, h3⟩
  have he := drop_eff h.w64 h.len (i := (j : Int)) ⟨by omega, by omega⟩ (n := nT T j) (own := own j)
  rw [Int.toNat_natCast] at he
  have hg := h.give hj
  have hcount := congrArg List.length he.count
  rw [hfl, List.append_nil] at hcount
  refine ⟨he.w64, he.len, fun i hi => ?_, fun a b ha hb hab c hc hc' => ?_, fun i hi c hc => ?_, ?_⟩
  · rw [nT_set hjT]
    by_cases hij : i = j
    · subst hij
      rw [if_pos rfl]
      exact .inl ⟨rfl, he.free, by simp⟩
    · rw [if_neg (fun e => hij e.symm)]
      simp only [if_neg hij]
      have ho : ∀ k, 820 ≤ k → ¬ (824 + 8 * j ≤ k ∧ k < 824 + 8 * j + 8) → (putAll X (dropPs X j (nT T j) (own j))).getD k 0 = X.getD k 0 := fun k h1 h2 => he.other k h1 (by rw [Int.toNat_natCast]; exact h2)
      rcases h.each i hi with ⟨h1, h2, h3⟩ | ⟨h1, h2, h3⟩
      · exact .inl ⟨h1, h2.same fun k hk => ho _ (by rw [Int.toNat_natCast]; omega) (by rw [Int.toNat_natCast]; omega), h3⟩
      · refine .inr ⟨h1, h2.same (fun k hk => ho _ (by rw [Int.toNat_natCast]; omega) (by rw [Int.toNat_natCast]; omega)) fun c hc k hk => ?_, h3⟩
        exact ho _ (by omega) (by omega)
  · by_cases haj : a = j
    · rw [if_pos haj] at hc; simp at hc
    · rw [if_neg haj] at hc
      by_cases hbj : b = j
      · rw [if_pos hbj] at hc'; simp at hc'
      · rw [if_neg hbj] at hc'
        exact h.apart a b ha hb hab c hc hc'
  · by_cases hij : i = j
    · rw [if_pos hij] at hc; simp at hc
    · rw [if_neg hij] at hc
      have hcc : c ≠ 0 ∧ c < 256 := by
        rcases h.each i hi with ⟨-, -, h3⟩ | ⟨-, h2, -⟩
        · rw [h3] at hc; simp at hc
        · exact h2.mem c hc
      rw [he.used c hcc.2 hcc.1, h.used i hi c hc, hfl, List.append_nil]
      simp [h.apart i j hi hj hij c hc]
  · have h1 := (sumTo_set hjT inoZ (.slice none 0 0) 32).2 hj
    rw [needT_set hjT, if_neg (by decide)] at h1
    have h3 := h.count
    omega

end Go.Proofs.YtlfkodlnhfdgjaaGreatDoor

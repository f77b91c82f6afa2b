/-
  Layer 9, plain: what is reached from an inode, by the table; two ways of finding it. Layer 8, the law InodePlays: the sheet behind each call. Layer 9, plain: names in their order; a list of entries parted at a name. Nothing of the program is named here. Layer 9: strings.Compare; entries found by halves (slices.BinarySearchFunc, search). Layer 9: Find. Layer 9: what is ahead of a name, and what is behind it (around); slices.Grow, slices.Concat of entries. Layer 9: slices.Grow, slices.Concat of entries. Layer 9: an inode with other entries (having). Layer 9: With. Layer 9, the laws' awake.
-/
import Derived.Test.YtlfkodlnhfdgjaaGreatDoorG16
import Derived.Test.YtlfkodlnhfdgjaaGreatDoorG14
import Derived.Test.YtlfkodlnhfdgjaaGreatDoorG10
import Derived.Lib.Bytealg
import Derived.Test.YtlfkodlnhfdgjaaGreatDoorRows
import Derived.Deep.LoopGhost
import Derived.Test.YtlfkodlnhfdgjaaGreatDoorG05
import Derived.Test.YtlfkodlnhfdgjaaGreatDoorG03
import Derived.Test.YtlfkodlnhfdgjaaGreatDoorG08
import Derived.Test.YtlfkodlnhfdgjaaGreatDoorG11
import Derived.Test.YtlfkodlnhfdgjaaGreatDoorG02
import Derived.Test.YtlfkodlnhfdgjaaGreatDoorG07
namespace Go.Proofs.YtlfkodlnhfdgjaaGreatDoor
open Go.RowKit

/-- Where the entries of an inode lead. -/
def succL (T : List (Ino × Value)) (a : Int) : List Int := if 0 ≤ a ∧ a < 32 then (nT T a.toNat).E.map (·.2) else []

/-- What is come to. -/
inductive Reach (T : List (Ino × Value)) (d : Int) : Int → Prop
  | here : Reach T d d
  | step {a b : Int} : Reach T d a → b ∈ succL T a → Reach T d b

/-- Of a free inode the table has no entries. -/
def TabS (T : List (Ino × Value)) : Prop := ∀ i, (nT T i).F = 0 → (nT T i).E = []

theorem TabS.set {T : List (Ino × Value)} (h : TabS T) {j : Nat} (hj : j < T.length) {n : Ino} (v : Value) (hn : n.F ≠ 0) : TabS (T.set j (n, v)) := fun i hi => by
  rw [nT_set hj] at hi ⊢
  by_cases e : j = i
  · rw [if_pos e] at hi; exact absurd hi hn
  · rw [if_neg e] at hi ⊢; exact h i hi

/-- All entries lead to inodes' numbers. -/
def TabN (T : List (Ino × Value)) : Prop := ∀ a, ∀ b ∈ succL T a, 0 ≤ b ∧ b < 32

theorem tab_n {T : List (Ino × Value)} (hS : TabS T) (hR : TabR T) (hF : ∀ i : Nat, i < 32 → 0 ≤ (nT T i).F) : TabN T := fun a b hb => by
  unfold succL at hb
  split at hb
  · next ha =>
    have h1 := hF a.toNat (by omega)
    by_cases h0 : (nT T a.toNat).F = 0
    · rw [hS _ h0] at hb; simp at hb
    · obtain ⟨k, hk, he⟩ := List.getElem_of_mem hb
      rw [List.length_map] at hk
      rw [List.getElem_map] at he
      rcases (hR a.toNat (by omega) (by omega)).2.2 with ⟨-, h2⟩ | ⟨-, h2⟩
      · have := h2.2.1; omega
      · have h3 := (h2.2.2.2 k hk).2.1
        have e : eno (nT T a.toNat).E k = b := by
          rw [← he]
          simp [eno, List.getD_eq_getElem?_getD, hk]
        rw [e] at h3
        omega
  · simp at hb

theorem Reach.rng {T : List (Ino × Value)} (hN : TabN T) {d x : Int} (h : Reach T d x) : x = d ∨ (0 ≤ x ∧ x < 32) := by
  cases h with
  | here => exact .inl rfl
  | step _ hb => exact .inr (hN _ _ hb)

theorem Reach.out {T : List (Ino × Value)} {d x : Int} (hd : ¬ (0 ≤ d ∧ d < 32)) (h : Reach T d x) : x = d := by
  induction h with
  | here => rfl
  | step _ hb ih =>
    subst ih
    unfold succL at hb
    rw [if_neg hd] at hb
    simp at hb

theorem Reach.closed {T : List (Ino × Value)} {d : Int} {P : Int → Prop} (h0 : P d) (hc : ∀ a, P a → ∀ b ∈ succL T a, P b) {x : Int} (h : Reach T d x) : P x := by
  induction h with
  | here => exact h0
  | step _ hb ih => exact hc _ ih _ hb

/-- A row in which no number stands twice is no longer than one in which all its numbers are. -/
theorem nodup_len : ∀ (l m : List Int), l.Nodup → (∀ x ∈ l, x ∈ m) → l.length ≤ m.length
  | [], _, _, _ => Nat.zero_le _
  | a :: l, m, hn, h => by
    have h1 := List.nodup_cons.1 hn
    have ha := h a (by simp)
    have h2 := nodup_len l (m.erase a) h1.2 fun x hx => by
      have hne : x ≠ a := fun e => h1.1 (e ▸ hx)
      exact (List.mem_erase_of_ne hne).2 (h x (by simp [hx]))
    rw [List.length_erase_of_mem ha] at h2
    have : m.length ≠ 0 := fun e => by rw [List.eq_nil_of_length_eq_zero e] at ha; simp at ha
    rw [List.length_cons]
    omega

/-- The row of what was come to; its first k were looked at. -/
structure BInv (T : List (Ino × Value)) (d i : Int) (R : List Int) (k : Nat) : Prop where
  nodup : R.Nodup
  reach : ∀ x ∈ R, Reach T d x
  first : d ∈ R
  le : k ≤ R.length
  done : ∀ j, j < k → ∀ x, R[j]? = some x → x ≠ i ∧ ∀ b ∈ succL T x, b ∈ R

theorem BInv.start (T : List (Ino × Value)) (d i : Int) : BInv T d i [d] 0 :=
  ⟨List.nodup_cons.2 ⟨by simp, List.nodup_nil⟩, fun x hx => by rw [List.mem_singleton] at hx; subst hx; exact .here, by simp, Nat.zero_le _, fun j hj => by omega⟩

theorem BInv.len {T : List (Ino × Value)} (hN : TabN T) {d i : Int} {R : List Int} {k : Nat} (h : BInv T d i R k) : R.length ≤ 33 := by
  have h1 := nodup_len R (d :: (List.range 32).map fun n : Nat => (n : Int)) h.nodup fun x hx => by
    rcases (h.reach x hx).rng hN with e | ⟨h1, h2⟩
    · rw [e]; simp
    · refine List.mem_cons_of_mem _ (List.mem_map.2 ⟨x.toNat, List.mem_range.2 (by omega), by omega⟩)
  rw [List.length_cons, List.length_map, List.length_range] at h1
  exact h1

theorem BInv.found {T : List (Ino × Value)} {d i : Int} {R : List Int} {k : Nat} (h : BInv T d i R k) {x : Int} (hx : R[k]? = some x) (e : x = i) : Reach T d i := by
  rw [← e]
  exact h.reach x (List.mem_of_getElem? hx)

theorem BInv.ended {T : List (Ino × Value)} {d i : Int} {R : List Int} {k : Nat} (h : BInv T d i R k) (hk : k = R.length) : ¬ Reach T d i := fun hr => by
  subst hk
  have hm : ∀ x, Reach T d x → x ∈ R := fun x hx => Reach.closed (P := fun x => x ∈ R) h.first (fun a ha b hb => by
    obtain ⟨j, hj, e⟩ := List.getElem_of_mem ha
    exact (h.done j hj a (by rw [List.getElem?_eq_getElem hj, e])).2 b hb) hx
  obtain ⟨j, hj, e⟩ := List.getElem_of_mem (hm i hr)
  exact (h.done j hj i (by rw [List.getElem?_eq_getElem hj, e])).1 rfl

/-- One more is come to. -/
theorem BInv.more {T : List (Ino × Value)} {d i : Int} {R : List Int} {k : Nat} (h : BInv T d i R k) {x b : Int} (hx : R[k]? = some x) (hb : b ∈ succL T x) (hn : b ∉ R) : BInv T d i (R ++ [b]) k ∧ (R ++ [b])[k]? = some x := by
  have hk : k < R.length := (List.getElem?_eq_some_iff.1 hx).1
  refine ⟨⟨?_, fun y hy => ?_, by simp [h.first], by rw [List.length_append]; have := h.le; omega, fun j hj y hy => ?_⟩, by rw [List.getElem?_append_left hk, hx]⟩
  · rw [List.nodup_append]
    refine ⟨h.nodup, List.nodup_cons.2 ⟨by simp, List.nodup_nil⟩, fun y hy z hz e => ?_⟩
    rw [List.mem_singleton] at hz
    rw [hz] at e
    exact hn (e ▸ hy)
  · rcases List.mem_append.1 hy with hy | hy
    · exact h.reach y hy
    · rw [List.mem_singleton] at hy
      subst hy
      exact .step (h.reach x (List.mem_of_getElem? hx)) hb
  · rw [List.getElem?_append_left (by omega)] at hy
    obtain ⟨h1, h2⟩ := h.done j hj y hy
    exact ⟨h1, fun b hb => by simp [h2 b hb]⟩

theorem BInv.next {T : List (Ino × Value)} {d i : Int} {R : List Int} {k : Nat} (h : BInv T d i R k) {x : Int} (hx : R[k]? = some x) (hne : x ≠ i) (hall : ∀ b ∈ succL T x, b ∈ R) : BInv T d i R (k + 1) := by
  have hk : k < R.length := (List.getElem?_eq_some_iff.1 hx).1
  refine ⟨h.nodup, h.reach, h.first, by omega, fun j hj y hy => ?_⟩
  by_cases e : j = k
  · subst e
    rw [hx] at hy
    cases hy
    exact ⟨hne, hall⟩
  · exact h.done j (by omega) y hy

/-! The reference's way: a row of marks. -/

def mk (S : List Bool) (x : Int) : Bool := S.getD x.toNat false

/-- All marks of the one are marks of the other. -/
def SubM (S S' : List Bool) : Prop := ∀ k, S.getD k false = true → S'.getD k false = true

theorem SubM.refl (S : List Bool) : SubM S S := fun _ h => h
theorem SubM.trans {S S' S'' : List Bool} (h : SubM S S') (h' : SubM S' S'') : SubM S S'' := fun k hk => h' k (h k hk)

def cntM (S : List Bool) : Nat := S.countP fun x => x

theorem cntM_le : ∀ (S S' : List Bool), S.length = S'.length → SubM S S' → cntM S ≤ cntM S' ∧ (cntM S = cntM S' → S = S')
  | [], [], _, _ => ⟨Nat.le_refl _, fun _ => rfl⟩
  | a :: S, b :: S', hl, h => by
    have h0 : a = true → b = true := h 0
    obtain ⟨h1, h2⟩ := cntM_le S S' (by simpa using hl) fun k hk => h (k + 1) hk
    unfold cntM at *
    rw [List.countP_cons, List.countP_cons]
    cases a <;> cases b
    · exact ⟨by simpa using h1, fun e => by rw [h2 (by simpa using e)]⟩
    · exact ⟨by simp; omega, fun e => by simp at e; omega⟩
    · exact absurd (h0 rfl) (by simp)
    · exact ⟨by simp; omega, fun e => by rw [h2 (by simpa using e)]⟩

theorem SubM.set (S : List Bool) (k : Nat) : SubM S (S.set k true) := fun j hj => by
  rw [List.getD_eq_getElem?_getD, List.getElem?_set]
  by_cases e : k = j
  · rw [if_pos e]
    have : j < S.length := by
      rcases Nat.lt_or_ge j S.length with h | h
      · exact h
      · rw [List.getD_eq_getElem?_getD, List.getElem?_eq_none h] at hj
        cases hj
    rw [e, if_pos this]
    rfl
  · rw [if_neg e]
    rw [List.getD_eq_getElem?_getD] at hj
    exact hj

theorem set_mark (S : List Bool) {k : Nat} (hk : k < S.length) (j : Nat) : (S.set k true).getD j false = true ↔ (j = k ∨ S.getD j false = true) := by
  rw [List.getD_eq_getElem?_getD, List.getElem?_set, List.getD_eq_getElem?_getD]
  by_cases e : k = j
  · subst e
    simp [hk]
  · rw [if_neg e]
    exact ⟨.inr, fun h => h.resolve_left fun h => e h.symm⟩

/-- What is marked is come to. -/
def SoundM (T : List (Ino × Value)) (d : Int) (S : List Bool) : Prop := S.length = 32 ∧ mk S d = true ∧ ∀ k : Nat, k < 32 → S.getD k false = true → Reach T d (k : Int)

def CompM (T : List (Ino × Value)) (d : Int) (S : List Bool) : Prop := ∀ x, Reach T d x → mk S x = true

/-- Behind so many rounds. -/
def RoundM (T : List (Ino × Value)) (d : Int) (S : List Bool) (r : Nat) : Prop := SoundM T d S ∧ (CompM T d S ∨ r + 1 ≤ cntM S)

/-- Within a round: the first k were looked at. -/
def InM (T : List (Ino × Value)) (d : Int) (S0 S : List Bool) (k : Nat) : Prop := SoundM T d S ∧ SubM S0 S ∧ ∀ q : Nat, q < k → S0.getD q false = true → ∀ b ∈ succL T (q : Int), mk S b = true

theorem SoundM.mark {T : List (Ino × Value)} (hN : TabN T) {d : Int} {S : List Bool} (h : SoundM T d S) {k : Nat} (hk : k < 32) (hm : S.getD k false = true) {b : Int} (hb : b ∈ succL T (k : Int)) : SoundM T d (S.set b.toNat true) := by
  obtain ⟨h1, h2, h3⟩ := h
  have hr := hN _ _ hb
  refine ⟨by rw [List.length_set, h1], SubM.set S _ _ h2, fun j hj hjm => ?_⟩
  rcases (set_mark S (by omega) j).1 hjm with e | e
  · have : (j : Int) = b := by omega
    rw [this]
    exact .step (h3 k hk hm) hb
  · exact h3 j hj e

theorem RoundM.next {T : List (Ino × Value)} (hN : TabN T) {d : Int} (hd : 0 ≤ d ∧ d < 32) {S S' : List Bool} {r : Nat} (h : RoundM T d S r) (h' : InM T d S S' 32) : RoundM T d S' (r + 1) := by
  obtain ⟨h1, h2⟩ := h
  obtain ⟨g1, g2, g3⟩ := h'
  refine ⟨g1, ?_⟩
  rcases h2 with h2 | h2
  · exact .inl fun x hx => g2 _ (h2 x hx)
  · obtain ⟨c1, c2⟩ := cntM_le S S' (by rw [h1.1, g1.1]) g2
    by_cases e : cntM S = cntM S'
    · have e2 := c2 e
      subst e2
      refine .inl fun x hx => ?_
      have : (0 ≤ x ∧ x < 32) ∧ mk S x = true := Reach.closed (P := fun x => (0 ≤ x ∧ x < 32) ∧ mk S x = true) ⟨hd, h1.2.1⟩ (fun a ha b hb => ?_) hx
      · exact this.2
      · refine ⟨hN _ _ hb, g3 a.toNat (by omega) ha.2 b ?_⟩
        rw [Int.toNat_of_nonneg ha.1.1]
        exact hb
    · exact .inr (by omega)

theorem cntM_len (S : List Bool) : cntM S ≤ S.length := List.countP_le_length

/-- Behind all rounds all is marked that is come to. -/
theorem RoundM.ended {T : List (Ino × Value)} {d : Int} {S : List Bool} {r : Nat} (h : RoundM T d S r) (hr : 32 ≤ r) {i : Int} (hi : 0 ≤ i ∧ i < 32) : mk S i = true ↔ Reach T d i := by
  obtain ⟨h1, h2⟩ := h
  constructor
  · intro hm
    have := h1.2.2 i.toNat (by omega) hm
    rwa [Int.toNat_of_nonneg hi.1] at this
  · intro hx
    rcases h2 with h2 | h2
    · exact h2 i hx
    · have := cntM_len S
      have := h1.1
      omega

theorem RoundM.start {T : List (Ino × Value)} {d : Int} (hd : 0 ≤ d ∧ d < 32) : RoundM T d ((List.replicate 32 false).set d.toNat true) 0 := by
  have hm := set_mark (List.replicate 32 false) (k := d.toNat) (by rw [List.length_replicate]; omega)
  refine ⟨⟨by simp, (hm _).2 (.inl rfl), fun k hk hkm => ?_⟩, .inr ?_⟩
  · rcases (hm k).1 hkm with e | e
    · have : (k : Int) = d := by omega
      rw [this]
      exact .here
    · rw [List.getD_eq_getElem?_getD, List.getElem?_replicate, if_pos hk] at e
      cases e
  · have h1 := (hm d.toNat).2 (.inl rfl)
    show 1 ≤ List.countP _ _
    rw [Nat.succ_le_iff, List.countP_pos_iff]
    refine ⟨true, ?_, rfl⟩
    have hl : d.toNat < ((List.replicate 32 false).set d.toNat true).length := by simp; omega
    rw [List.getD_eq_getElem?_getD, List.getElem?_eq_getElem hl, Option.getD_some] at h1
    have hmem : ((List.replicate 32 false).set d.toNat true)[d.toNat] ∈ (List.replicate 32 false).set d.toNat true := List.getElem_mem hl
    rwa [h1] at hmem

end Go.Proofs.YtlfkodlnhfdgjaaGreatDoor

namespace Go.Proofs.YtlfkodlnhfdgjaaGreatDoor
open Go.RowKit

/-- A sheet whose words are the table's. -/
def Play (W0 : World) (b gp : Nat) (B : List Int) (T : List (Ino × Value)) (room m : Nat) (wx : World) : Prop :=
  ∃ ps own, ShAt wx b gp B ps ∧ gp < wx.heap.size ∧ W0.heap.size ≤ gp ∧ ps.length ≤ m ∧ PlayP (putAll B ps) T own room ∧ Keeps [] W0 wx

theorem Play.keep {W0 wx w' : World} {b gp : Nat} {B : List Int} {T : List (Ino × Value)} {room m : Nat} (h : Play W0 b gp B T room m wx) {l : List Nat} (hk : Keeps l wx w') (hl : ∀ x ∈ l, W0.heap.size ≤ x ∧ x ≠ b ∧ x ≠ gp) : Play W0 b gp B T room m w' := by
  obtain ⟨ps, own, h1, h2, h3, h4, h5, h6⟩ := h
  exact ⟨ps, own, h1.keep hk (fun hm => (hl _ hm).2.1 rfl) (fun hm => (hl _ hm).2.2 rfl), Nat.lt_of_lt_of_le h2 hk.size, h3, h4, h5, h6.trans hk fun x hx => .inr (hl x hx).1⟩

theorem Play.keeps {W0 wx : World} {b gp : Nat} {B : List Int} {T : List (Ino × Value)} {room m : Nat} (h : Play W0 b gp B T room m wx) : Keeps [] W0 wx ∧ gp < wx.heap.size ∧ b < wx.heap.size := by
  obtain ⟨ps, own, h1, h2, h3, h4, h5, h6⟩ := h
  exact ⟨h6, h2, h1.raw.lt⟩

theorem Play.right {W0 wx : World} {b gp : Nat} {B : List Int} {T : List (Ino × Value)} {room m : Nat} (h : Play W0 b gp B T room m wx) : TabR T ∧ sumTo T 32 ≤ room := by
  obtain ⟨ps, own, h1, h2, h3, h4, h5, h6⟩ := h
  exact ⟨h5.right, by have := h5.count; omega⟩

/-- What Get tells, by the table. -/
def GetT (T : List (Ino × Value)) (i : Int) (n : Ino) (c : Nat) (r : Int) : Prop :=
  (¬ (0 ≤ i ∧ i < 32) ∧ r = 1 ∧ n = inoZ ∧ c = 0) ∨ ((0 ≤ i ∧ i < 32) ∧ (nT T i.toNat).F = 0 ∧ r = 2 ∧ n = inoZ ∧ c = 0) ∨ ((0 ≤ i ∧ i < 32) ∧ 0 < (nT T i.toNat).F ∧ r = 0 ∧ n = nT T i.toNat ∧ c = needA n)

end Go.Proofs.YtlfkodlnhfdgjaaGreatDoor

namespace Go.Proofs.YtlfkodlnhfdgjaaGreatDoor
open Go.RowKit

/-- One name is ahead of another. -/
def ltB (a b : ByteArray) : Prop := Op.bytesLess a.toList b.toList = true

/-- What strings.Compare tells of two names. -/
def cmpB (a b : ByteArray) : Int := Lib.compareBytes a.data.toList b.data.toList

theorem compare_cases : ∀ a b : List UInt8, (Lib.compareBytes a b < 0 ↔ Op.bytesLess a b = true) ∧ (Lib.compareBytes a b = 0 ↔ a = b)
  | [], [] => by simp [Lib.compareBytes, Op.bytesLess]
  | [], _ :: _ => by simp [Lib.compareBytes, Op.bytesLess]
  | _ :: _, [] => by simp [Lib.compareBytes, Op.bytesLess]
  | x :: a, y :: b => by
    have ih := compare_cases a b
    unfold Lib.compareBytes
    by_cases h1 : x < y
    · have hne : x ≠ y := fun e => by rw [e, UInt8.lt_iff_toNat_lt] at h1; omega
      simp [h1, hne, Op.bytesLess]
    · by_cases h2 : y < x
      · have hne : x ≠ y := fun e => h1 (by rw [e] at h2; exact absurd h2 (by rw [UInt8.lt_iff_toNat_lt]; omega))
        simp [h1, h2, hne, Op.bytesLess]
      · have he : x = y := by
          rw [UInt8.lt_iff_toNat_lt] at h1 h2
          exact UInt8.toNat_inj.1 (by omega)
        subst he
        simp only [h1, if_false, Op.bytesLess, BEq.rfl, Bool.true_and, decide_false, Bool.false_or, List.cons.injEq, true_and]
        exact ih

theorem cmpB_neg (a b : ByteArray) : cmpB a b < 0 ↔ ltB a b := by
  unfold cmpB ltB
  rw [ByteArray.toList_eq, ByteArray.toList_eq]
  exact (compare_cases _ _).1

theorem cmpB_zero (a b : ByteArray) : cmpB a b = 0 ↔ a = b := by
  unfold cmpB
  rw [(compare_cases _ _).2]
  exact ⟨fun h => ByteArray.ext (Array.toList_inj.1 h), fun h => by rw [h]⟩

theorem ltB_irrefl (a : ByteArray) : ¬ ltB a a := fun h => by
  unfold ltB at h
  rw [less_irrefl] at h
  cases h

theorem ltB_trans {a b c : ByteArray} (h : ltB a b) (k : ltB b c) : ltB a c := less_trans _ _ _ h k

theorem ltB_ne {a b : ByteArray} (h : ltB a b) : a ≠ b := fun e => ltB_irrefl b (by rw [e] at h; exact h)

/-- The list, parted at a name: what is ahead of it, the entry of that name (if there is one), what is behind it. -/
structure SplitE (E A M B : List (ByteArray × Int)) (nm : ByteArray) : Prop where
  eq : E = A ++ (M ++ B)
  ahead : ∀ p ∈ A, ltB p.1 nm
  behind : ∀ p ∈ B, ltB nm p.1
  one : M = [] ∨ ∃ i, M = [(nm, i)]

theorem SplitE.change {E A M B : List (ByteArray × Int)} {nm : ByteArray} (h : SplitE E A M B nm) (M' : List (ByteArray × Int)) (hm : M' = [] ∨ ∃ i, M' = [(nm, i)]) : SplitE (A ++ (M' ++ B)) A M' B nm := ⟨rfl, h.ahead, h.behind, hm⟩

/-- The parts of a rising list at a name are the only ones. -/
theorem SplitE.at {E A M B : List (ByteArray × Int)} {nm : ByteArray} (h : SplitE E A M B nm) (k : Nat) (hk : k < E.length) : (ltB (enm E k) nm ↔ k < A.length) ∧ (enm E k = nm ↔ k = A.length ∧ M ≠ []) := by
  have hE : E.length = A.length + (M.length + B.length) := by rw [h.eq, List.length_append, List.length_append]
  have hM : M.length ≤ 1 := by rcases h.one with e | ⟨i, e⟩ <;> rw [e] <;> simp
  have hget : (enm E k, eno E k) = E[k] := by simp [enm, eno, List.getD_eq_getElem?_getD, hk]
  have h1 : enm E k = E[k].1 := by rw [← hget]
  by_cases ha : k < A.length
  · have e : E[k] = A[k] := by simp only [h.eq]; rw [List.getElem_append_left ha]
    have hl := h.ahead _ (List.getElem_mem ha)
    rw [← e, ← h1] at hl
    exact ⟨⟨fun _ => ha, fun _ => hl⟩, ⟨fun e => absurd e (ltB_ne hl), fun e => by omega⟩⟩
  · by_cases hm : k < A.length + M.length
    · have hk0 : k = A.length := by omega
      have hM1 : M ≠ [] := fun e => by rw [e] at hm; simp at hm; omega
      have e : enm E k = nm := by
        obtain ⟨i, e⟩ := h.one.resolve_left hM1
        have : E[k]? = some (nm, i) := by
          rw [h.eq, e, hk0, List.getElem?_append_right (by omega)]
          simp
        rw [List.getElem?_eq_getElem hk, Option.some_inj] at this
        rw [h1, this]
      exact ⟨⟨fun hl => absurd e (ltB_ne hl), fun h => absurd h ha⟩, ⟨fun _ => ⟨hk0, hM1⟩, fun _ => e⟩⟩
    · have hlt : k - A.length - M.length < B.length := by omega
      have e : E[k]? = some B[k - A.length - M.length] := by
        rw [h.eq, List.getElem?_append_right (by omega), List.getElem?_append_right (by omega), List.getElem?_eq_getElem hlt]
      rw [List.getElem?_eq_getElem hk, Option.some_inj] at e
      have hl := h.behind _ (List.getElem_mem hlt)
      rw [← e, ← h1] at hl
      refine ⟨⟨fun h2 => absurd (ltB_trans h2 hl) (ltB_irrefl _), fun h2 => absurd h2 ha⟩, ⟨fun e2 => absurd e2.symm (ltB_ne hl), fun ⟨h2, h3⟩ => ?_⟩⟩
      have : M.length ≠ 0 := fun e => h3 (List.eq_nil_of_length_eq_zero e)
      omega

end Go.Proofs.YtlfkodlnhfdgjaaGreatDoor

namespace Go.Proofs.YtlfkodlnhfdgjaaGreatDoor
open Go.RowKit

set_option maxRecDepth 100000 in
set_option maxHeartbeats 1000000 in
theorem compareS_at (a b : ByteArray) (w : World) : Calls Tryz.prog 43 #[.string a, .string b] w fun e w' => e = .returned (.int .i64 (cmpB a b)) ∧ w = w' := by
  go_enter Tryz.func43, Tryz.ntmps43
  go_wp2
  rw [run_callFunc_extern Tryz.func57 (by kernel_rfl) (by kernel_rfl) (by kernel_rfl) (e := Extern.BytealgCompare.compare) (by kernel_rfl), Lib.run_compareString]
  simp only [Result.andThen]
  rw [Oper.upon_value]
  go_wp2
  go_ret
  exact ⟨rfl, rfl⟩

set_option maxHeartbeats 1000000 in
theorem stringsCompare_at (a b : ByteArray) (w : World) : Calls Tryz.prog 34 #[.string a, .string b] w fun e w' => e = .returned (.int .i64 (cmpB a b)) ∧ w = w' := by
  have hcon := fun wx => compareS_at a b wx
  generalize cmpB a b = r at hcon ⊢
  go_enter Tryz.func34, Tryz.ntmps34
  go_wp2_with fail
  refine (hcon _).mono ?_; rintro e w' ⟨rfl, rfl⟩
  go_wp2_with fail
  go_ret
  exact ⟨rfl, rfl⟩

set_option maxHeartbeats 1000000 in
theorem entryCmp_at (a nm : ByteArray) (x : Int) (w : World) : Calls Tryz.prog 33 #[.agg #[.string a, .int .i64 x], .string nm] w fun e w' => e = .returned (.int .i64 (cmpB a nm)) ∧ Keeps [] w w' := by
  have hcon := fun wx => stringsCompare_at a nm wx
  generalize cmpB a nm = r at hcon ⊢
  have HK : Hid (Keeps [] w (w.alloc (.cells #[.string a, .int .i64 x] 39))) := (Keeps.refl [] w).alloc _
  go_enter Tryz.func33, Tryz.ntmps33
  go_wp2_with fail
  refine (hcon _).mono ?_; rintro e w' ⟨rfl, rfl⟩
  go_wp2_with fail
  go_ret
  exact ⟨rfl, HK.out⟩

def SearchPost (w : World) (A M : List (ByteArray × Int)) (e : Ending) (w' : World) : Prop := e = .returned (.tuple #[.int .i64 (A.length : Int), .bool (!M.isEmpty)]) ∧ Keeps [] w w'

set_option maxRecDepth 100000 in
set_option maxHeartbeats 4000000 in
theorem binary_at {w : World} {v : Value} {g : Nat} {E A M B : List (ByteArray × Int)} {nm : ByteArray} (hE : EReads w v g E) (hs : SplitE E A M B nm) (hE1 : E.length ≤ 1000) :
    Calls Tryz.prog 32 #[v, .string nm, .func (.func 33) #[] #[]] w (SearchPost w A M) := by
  have HPOST : Hid (∀ w', Keeps [] w w' → SearchPost w A M (.returned (.tuple #[.int .i64 (A.length : Int), .bool (!M.isEmpty)])) w') := fun w' h => ⟨rfl, h⟩
  have HAT := Lib.hid (hs.at)
  have hAl : A.length ≤ E.length := by rw [hs.eq, List.length_append]; omega
  obtain ⟨a, cap, rfl, hcap, hmax, HEC⟩ := hE.open
  have HCE : Hid (∀ (x : ByteArray) (y : Int) (wx : World), Calls Tryz.prog 33 #[.agg #[.string x, .int .i64 y], .string nm] wx fun e w' => e = .returned (.int .i64 (cmpB x nm)) ∧ Keeps [] wx w') := fun x y wx => entryCmp_at x nm y wx
  have HNE : Hid (∀ k, k < E.length → (cmpB (enm E k) nm < 0 ↔ k < A.length) ∧ (cmpB (enm E k) nm = 0 ↔ k = A.length ∧ M ≠ [])) := fun k hk => ⟨(cmpB_neg _ _).trans (HAT.out k hk).1, (cmpB_zero _ _).trans (HAT.out k hk).2⟩
  have HLM : Hid (M ≠ [] → A.length < E.length) := fun h => by
    have : M.length ≠ 0 := fun e => h (List.eq_nil_of_length_eq_zero e)
    have e := congrArg List.length hs.eq
    rw [List.length_append, List.length_append] at e
    omega
  unfold maxLen at hmax
  have HMM : Hid ((M.isEmpty = true ∧ M = []) ∨ (M.isEmpty = false ∧ M ≠ [])) := by
    show _ ∨ _
    cases M with
    | nil => exact .inl ⟨rfl, rfl⟩
    | cons a b => exact .inr ⟨rfl, by simp⟩
  clear hs hE HAT
  generalize hm : E.length = m at *
  generalize hk : A.length = k at *
  clear hm hk
  go_enter Tryz.func32, Tryz.ntmps32
  go_wp2_with fail
  go_loopg [9, 10] m (fun gh s9 s10 wx => ∃ lo hi : Nat, s9 = .int .i64 (lo : Int) ∧ s10 = .int .i64 (hi : Int) ∧ lo ≤ k ∧ k ≤ hi ∧ hi ≤ m ∧ hi - lo ≤ gh ∧ Hid (Keeps [] w wx))
  case atStart => exact ⟨0, m, rfl, rfl, Nat.zero_le _, hAl, Nat.le_refl _, by omega, Keeps.refl _ _⟩
  case round =>
    obtain ⟨lo, hi, rfl, rfl, h1, h2, h3, h4, HK⟩ := hrel
    by_cases hlt : lo < hi
    · have hhm : (lo + hi) / 2 < m := by omega
      obtain ⟨hgg, off, rfl, d1, d2⟩ := HEC.out _ hhm
      have c0 : wr.cell? ⟨g, off + (lo + hi) / 2 * 2, none⟩ = some (.string (enm E ((lo + hi) / 2))) := (World.cell?_of_block (w := w) (a := ⟨g, off + (lo + hi) / 2 * 2, none⟩) (HK.out.block g hgg (by simp))).trans d1
      have c1 : wr.cell? ⟨g, off + (lo + hi) / 2 * 2 + 1, none⟩ = some (.int .i64 (eno E ((lo + hi) / 2))) := (World.cell?_of_block (w := w) (a := ⟨g, off + (lo + hi) / 2 * 2 + 1, none⟩) (HK.out.block g hgg (by simp))).trans d2
      have hN := HNE.out _ hhm
      have HC := Lib.hid (HCE.out (enm E ((lo + hi) / 2)) (eno E ((lo + hi) / 2)))
      clear d1 d2
      by_cases hlk : (lo + hi) / 2 < k
      · have hneg := hN.1.2 hlk
        clear hN
        generalize cmpB (enm E ((lo + hi) / 2)) nm = cv at *
        generalize enm E ((lo + hi) / 2) = nk at *
        generalize eno E ((lo + hi) / 2) = ik at *
        go_wp2_with fail
        refine (HC.out _).mono ?_; rintro e w2 ⟨rfl, hk2⟩
        have HK2 := Lib.hid (HK.out.trans' hk2)
        clear hk2
        go_wp2_with fail
        go_roundg (hi - ((lo + hi) / 2 + 1))
        case measure => omega
        case rel => exact ⟨(lo + hi) / 2 + 1, hi, by rw [show ((lo : Int) + (hi : Int)) / 2 + 1 = (((lo + hi) / 2 + 1 : Nat) : Int) by omega], rfl, by omega, h2, h3, Nat.le_refl _, HK2.out⟩
      · have hneg : ¬ cmpB (enm E ((lo + hi) / 2)) nm < 0 := fun h => hlk (hN.1.1 h)
        clear hN
        generalize cmpB (enm E ((lo + hi) / 2)) nm = cv at *
        generalize enm E ((lo + hi) / 2) = nk at *
        generalize eno E ((lo + hi) / 2) = ik at *
        go_wp2_with fail
        refine (HC.out _).mono ?_; rintro e w2 ⟨rfl, hk2⟩
        have HK2 := Lib.hid (HK.out.trans' hk2)
        clear hk2
        go_wp2_with fail
        go_roundg ((lo + hi) / 2 - lo)
        case measure => omega
        case rel => exact ⟨lo, (lo + hi) / 2, rfl, by rw [show ((lo : Int) + (hi : Int)) / 2 = (((lo + hi) / 2 : Nat) : Int) by omega], h1, by omega, by omega, Nat.le_refl _, HK2.out⟩
    · obtain rfl : lo = k := by omega
      obtain rfl : hi = lo := by omega
      rcases Nat.lt_or_ge hi m with hlm | hlm
      · obtain ⟨hgg, off, rfl, d1, d2⟩ := HEC.out _ hlm
        have c0 : wr.cell? ⟨g, off + hi * 2, none⟩ = some (.string (enm E hi)) := (World.cell?_of_block (w := w) (a := ⟨g, off + hi * 2, none⟩) (HK.out.block g hgg (by simp))).trans d1
        have c1 : wr.cell? ⟨g, off + hi * 2 + 1, none⟩ = some (.int .i64 (eno E hi)) := (World.cell?_of_block (w := w) (a := ⟨g, off + hi * 2 + 1, none⟩) (HK.out.block g hgg (by simp))).trans d2
        have hN := HNE.out _ hlm
        have HC := Lib.hid (HCE.out (enm E hi) (eno E hi))
        clear d1 d2
        rcases HMM.out with ⟨e1, e2⟩ | ⟨e1, e2⟩
        · have hz : (cmpB (enm E hi) nm == 0) = false := by
            rw [beq_eq_false_iff_ne]
            exact fun h => (hN.2.1 h).2 e2
          have HP2 : Hid (∀ w', Keeps [] w w' → SearchPost w A M (.returned (.tuple #[.int .i64 (hi : Int), .bool false])) w') := fun w' h => by have := HPOST.out w' h; rwa [e1] at this
          clear hN HMM e1 e2 HNE HCE HPOST HLM HEC
          generalize cmpB (enm E hi) nm = cv at *
          generalize enm E hi = nk at *
          generalize eno E hi = ik at *
          go_wp2_with fail
          refine (HC.out _).mono ?_; rintro e w2 ⟨rfl, hk2⟩
          have HK2 := Lib.hid (HK.out.trans' hk2)
          clear hk2
          go_wp2_with fail
          go_ret2
          exact HP2.out _ HK2.out
        · have hz : (cmpB (enm E hi) nm == 0) = true := by
            rw [beq_iff_eq]
            exact hN.2.2 ⟨rfl, e2⟩
          have HP2 : Hid (∀ w', Keeps [] w w' → SearchPost w A M (.returned (.tuple #[.int .i64 (hi : Int), .bool true])) w') := fun w' h => by have := HPOST.out w' h; rwa [e1] at this
          clear hN HMM e1 e2 HNE HCE HPOST HLM HEC
          generalize cmpB (enm E hi) nm = cv at *
          generalize enm E hi = nk at *
          generalize eno E hi = ik at *
          go_wp2_with fail
          refine (HC.out _).mono ?_; rintro e w2 ⟨rfl, hk2⟩
          have HK2 := Lib.hid (HK.out.trans' hk2)
          clear hk2
          go_wp2_with fail
          go_ret2
          exact HP2.out _ HK2.out
      · have HP2 : Hid (∀ w', Keeps [] w w' → SearchPost w A M (.returned (.tuple #[.int .i64 (hi : Int), .bool false])) w') := fun w' h => by
          have := HPOST.out w' h
          rcases HMM.out with ⟨e1, e2⟩ | ⟨e1, e2⟩
          · rwa [e1] at this
          · have := HLM.out e2; omega
        have hnlt : ¬ (hi : Int) < (m : Int) := by omega
        clear HMM HNE HCE HPOST HLM HEC
        go_wp2_with fail
        go_ret2
        exact HP2.out _ HK.out

set_option maxHeartbeats 1000000 in
theorem search_at {w : World} {v : Value} {g : Nat} {E A M B : List (ByteArray × Int)} {nm : ByteArray} (hE : EReads w v g E) (hs : SplitE E A M B nm) (hE1 : E.length ≤ 1000) :
    Calls Tryz.prog 19 #[v, .string nm] w (SearchPost w A M) := by
  have hb := binary_at hE hs hE1
  unfold SearchPost at hb
  have HB := Lib.hid hb
  have HP : Hid (∀ w', Keeps [] w w' → SearchPost w A M (.returned (.tuple #[.int .i64 (A.length : Int), .bool (!M.isEmpty)])) w') := fun w' h => ⟨rfl, h⟩
  clear hE hs hE1 hb
  generalize (A.length : Int) = k at *
  generalize (!M.isEmpty) = b at *
  go_enter Tryz.func19, Tryz.ntmps19
  go_wp2_with fail
  refine HB.out.mono ?_; rintro e w' ⟨rfl, hk⟩
  have HK := Lib.hid hk
  clear hk
  go_wp2_with fail
  go_ret2
  exact HP.out _ HK.out

end Go.Proofs.YtlfkodlnhfdgjaaGreatDoor

namespace Go.Proofs.YtlfkodlnhfdgjaaGreatDoor
open Go.RowKit

/-- The inode that the entry of the name (if there is one) leads to. -/
def inoM : List (ByteArray × Int) → Int
  | [] => 0
  | p :: _ => p.2

def FindPost (w : World) (M : List (ByteArray × Int)) (e : Ending) (w' : World) : Prop := e = .returned (.tuple #[.int .i64 (inoM M), .bool (!M.isEmpty)]) ∧ Keeps [] w w'

theorem SplitE.mid {E A M B : List (ByteArray × Int)} {nm : ByteArray} (h : SplitE E A M B nm) (hM : M ≠ []) : A.length < E.length ∧ eno E A.length = inoM M := by
  obtain ⟨i, rfl⟩ := h.one.resolve_left hM
  have hl : A.length < E.length := by rw [h.eq, List.length_append, List.length_append]; simp; omega
  refine ⟨hl, ?_⟩
  rw [eno, h.eq, List.getD_eq_getElem?_getD, List.getElem?_append_right (Nat.le_refl _)]
  simp [inoM]

set_option maxRecDepth 100000 in
set_option maxHeartbeats 2000000 in
theorem find_at {w : World} (n : Ino) {v : Value} {g : Nat} {A M B : List (ByteArray × Int)} {nm : ByteArray} (hB : n.B.length = 13) (hE : EReads w v g n.E) (hs : SplitE n.E A M B nm) (hE1 : n.E.length ≤ 1000) :
    Calls Tryz.prog 10 #[.agg (inoC n v), .string nm] w (FindPost w M) := by
  have hk0 : Keeps [] w (w.alloc (.cells (inoC n v) 29)) := (Keeps.refl [] w).alloc _
  have hse := search_at (hE.keep hk0 (by simp)) hs hE1
  unfold SearchPost at hse
  have HMID := Lib.hid hs.mid
  have HMM : Hid ((M.isEmpty = true ∧ M = []) ∨ (M.isEmpty = false ∧ M ≠ [])) := by
    show _ ∨ _
    cases M with
    | nil => exact .inl ⟨rfl, rfl⟩
    | cons a b => exact .inr ⟨rfl, by simp⟩
  have HP : Hid (∀ w', Keeps [] w w' → FindPost w M (.returned (.tuple #[.int .i64 (inoM M), .bool (!M.isEmpty)])) w') := fun w' h => ⟨rfl, h⟩
  obtain ⟨a, cap, rfl, hcap, hmax, HEC⟩ := hE.open
  have hat := inoAt (.slice a n.E.length cap) hB
  have hb0 := Blk.new w (inoC n (.slice a n.E.length cap)) 29
  generalize inoC n (.slice a n.E.length cap) = Z at *
  have h17 : Z[17]? = some (.slice a n.E.length cap) := hat.f5
  have c17 : (w.alloc (.cells Z 29)).cell? ⟨w.heap.size, 17, none⟩ = some (.slice a n.E.length cap) := by rw [hb0.cell]; exact h17
  have HSE := Lib.hid hse
  have HB0 := Lib.hid hb0
  have HK0 := Lib.hid hk0
  have H17 := Lib.hid h17
  unfold maxLen at hmax
  clear hat hb0 hk0 hse h17 hB hE hs
  generalize hm : n.E.length = m at *
  generalize hkk : A.length = k at *
  clear hm hkk
  go_enter Tryz.func10, Tryz.ntmps10
  go_wp2_with fail
  refine HSE.out.mono ?_; rintro e w2 ⟨rfl, hk2⟩
  have HK2 := Lib.hid hk2
  have c17b : w2.cell? ⟨w.heap.size, 17, none⟩ = some (.slice a m cap) := by rw [(HB0.out.keep hk2 (by simp)).cell]; exact H17.out
  have HKK := Lib.hid (HK0.out.trans' hk2)
  clear hk2 c17
  rcases HMM.out with ⟨e1, e2⟩ | ⟨e1, e2⟩
  · have HP2 : Hid (∀ w', Keeps [] w w' → FindPost w M (.returned (.tuple #[.int .i64 0, .bool false])) w') := fun w' h => by
      have := HP.out w' h
      rw [e1, show inoM M = 0 by rw [e2]; rfl] at this
      exact this
    rw [e1]
    clear e1 e2 HMM HP HMID HEC
    go_wp2_with fail
    go_ret2
    exact HP2.out _ HKK.out
  · obtain ⟨hkm, hval⟩ := HMID.out e2
    have HP2 : Hid (∀ w', Keeps [] w w' → FindPost w M (.returned (.tuple #[.int .i64 (inoM M), .bool true])) w') := fun w' h => by
      have := HP.out w' h
      rw [e1] at this
      exact this
    obtain ⟨hgg, off, rfl, -, d1⟩ := HEC.out k hkm
    rw [hval] at d1
    have c1 : w2.cell? ⟨g, off + k * 2 + 1, none⟩ = some (.int .i64 (inoM M)) := (World.cell?_of_block (w := w) (a := ⟨g, off + k * 2 + 1, none⟩) (HKK.out.block g hgg (by simp))).trans d1
    rw [e1]
    have hki : (k : Int) < (m : Int) := by omega
    clear e1 e2 HMM HP HMID HEC d1 hval
    generalize inoM M = im at *
    go_wp2_with fail
    go_ret2
    exact HP2.out _ HKK.out

end Go.Proofs.YtlfkodlnhfdgjaaGreatDoor

namespace Go.Proofs.YtlfkodlnhfdgjaaGreatDoor
open Go.RowKit

/-- l[:k] -/
theorem slice_ahead {w : World} {a : Option Addr} {n cap g : Nat} {E : List (ByteArray × Int)} (h : EReads w (.slice a n cap) g E) (k : Nat) (hk : k ≤ E.length) :
    ∃ a' c', (∀ wx, (Instr.sliceAt 27 (.slice a n cap) none (some (.int .i64 (k : Int))) none).run Tryz.prog wx = .ok (.slice a' k c') wx) ∧ EReads w (.slice a' k c') g (E.take k) := by
  have hu : Tryz.prog.underlying 27 = some (.slice (Tryz.prog.elem 27)) := by kernel_rfl
  have he : Tryz.prog.elem 27 = 39 := by kernel_rfl
  have hs : ∀ wx : World, (sizeOf 39).run Tryz.prog wx = .ok 2 wx := fun wx => by kernel_rfl
  obtain ⟨a0, cap0, hv, h1, h2, h3⟩ := h
  cases hv
  have hl : (E.take k).length = k := by rw [List.length_take]; omega
  refine ⟨if cap = 0 then a else a.map (·.add (0 * 2)), cap - 0, fun wx => ?_, _, _, by rw [hl], by omega, by omega, fun h0 => ?_⟩
  · rw [run_sliceAt_slice _ _ _ _ _ _ hu, run_slice_h _ _ _ _ _ hu .i64 (k : Int) (by omega) (by omega), he, hs]
    simp only [Result.andThen_ok, sliced, Int.toNat_natCast, Nat.sub_zero]
  · rw [hl] at h0
    obtain ⟨hg, off, rfl, hc⟩ := h3 (by omega)
    refine ⟨hg, off, by rw [if_neg (by omega)]; simp [add_plain], fun j hj => ?_⟩
    rw [hl] at hj
    obtain ⟨c0, c1⟩ := hc j (by omega)
    have e : (E.take k).getD j (ByteArray.empty, 0) = E.getD j (ByteArray.empty, 0) := by simp [List.getD_eq_getElem?_getD, hj]
    rw [enm, eno, e]
    exact ⟨c0, c1⟩

/-- l[k:] -/
theorem slice_behind {w : World} {a : Option Addr} {n cap g : Nat} {E : List (ByteArray × Int)} (h : EReads w (.slice a n cap) g E) (k : Nat) (hk : k ≤ E.length) :
    ∃ a' c', (∀ wx, (Instr.sliceAt 27 (.slice a n cap) (some (.int .i64 (k : Int))) none none).run Tryz.prog wx = .ok (.slice a' (n - k) c') wx) ∧ EReads w (.slice a' (n - k) c') g (E.drop k) := by
  have hu : Tryz.prog.underlying 27 = some (.slice (Tryz.prog.elem 27)) := by kernel_rfl
  have he : Tryz.prog.elem 27 = 39 := by kernel_rfl
  have hs : ∀ wx : World, (sizeOf 39).run Tryz.prog wx = .ok 2 wx := fun wx => by kernel_rfl
  obtain ⟨a0, cap0, hv, h1, h2, h3⟩ := h
  cases hv
  have hl : (E.drop k).length = E.length - k := by rw [List.length_drop]
  refine ⟨if cap = k then a else a.map (·.add (k * 2)), cap - k, fun wx => ?_, _, _, by rw [hl], by omega, by omega, fun h0 => ?_⟩
  · rw [run_sliceAt_slice _ _ _ _ _ _ hu, run_slice_l _ _ _ _ _ hu .i64 (k : Int) (by omega) (by omega), he, hs]
    simp only [Result.andThen_ok, sliced, Int.toNat_natCast]
  · rw [hl] at h0
    obtain ⟨hg, off, rfl, hc⟩ := h3 (by omega)
    refine ⟨hg, off + k * 2, by rw [if_neg (by omega)]; simp [add_plain], fun j hj => ?_⟩
    rw [hl] at hj
    obtain ⟨c0, c1⟩ := hc (k + j) (by omega)
    have e : (E.drop k).getD j (ByteArray.empty, 0) = E.getD (k + j) (ByteArray.empty, 0) := by simp [List.getD_eq_getElem?_getD]
    rw [show off + k * 2 + j * 2 = off + (k + j) * 2 by omega, enm, eno, e]
    exact ⟨c0, c1⟩

def AroundPost (w : World) (g : Nat) (A B : List (ByteArray × Int)) (e : Ending) (w' : World) : Prop :=
  ∃ x y, e = .returned (.tuple #[x, y]) ∧ EReads w x g A ∧ EReads w y g B ∧ Keeps [] w w'

theorem SplitE.takes {E A M B : List (ByteArray × Int)} {nm : ByteArray} (h : SplitE E A M B nm) : E.take A.length = A ∧ E.drop (A.length + M.length) = B ∧ E.length = A.length + M.length + B.length ∧ (M.isEmpty = true → M.length = 0) ∧ (M.isEmpty = false → M.length = 1) := by
  refine ⟨by rw [h.eq, List.take_left], by rw [h.eq, ← List.append_assoc, ← List.length_append, List.drop_left], by rw [h.eq, List.length_append, List.length_append]; omega, fun e => by rw [List.isEmpty_iff.1 e]; rfl, fun e => ?_⟩
  rcases h.one with rfl | ⟨i, rfl⟩
  · cases e
  · rfl

set_option maxRecDepth 100000 in
set_option maxHeartbeats 2000000 in
theorem around_at {w : World} {v : Value} {g : Nat} {E A M B : List (ByteArray × Int)} {nm : ByteArray} (hE : EReads w v g E) (hs : SplitE E A M B nm) (hE1 : E.length ≤ 1000) :
    Calls Tryz.prog 16 #[v, .string nm] w (AroundPost w g A B) := by
  have hse := search_at hE hs hE1
  unfold SearchPost at hse
  obtain ⟨t1, t2, t3, t4, t5⟩ := hs.takes
  obtain ⟨a, cap, hv, -, -, -⟩ := hE.open
  subst hv
  obtain ⟨a1, c1, hr1, hq1⟩ := slice_ahead hE A.length (by omega)
  obtain ⟨a2, c2, hr2, hq2⟩ := slice_behind hE (A.length + M.length) (by omega)
  rw [t1] at hq1
  rw [t2] at hq2
  have HP : Hid (∀ w', Keeps [] w w' → AroundPost w g A B (.returned (.tuple #[.slice a1 A.length c1, .slice a2 (E.length - (A.length + M.length)) c2])) w') := fun w' h => ⟨_, _, rfl, hq1, hq2, h⟩
  have HSE := Lib.hid hse
  have T4 := Lib.hid t4
  have T5 := Lib.hid t5
  have T3 := Lib.hid t3
  have HR1 := Lib.hid hr1
  have HR2 := Lib.hid hr2
  clear hse hq1 hq2 hE hs t1 t2 t4 t5 hr1 hr2
  generalize hm : E.length = m at *
  generalize hk : A.length = k at *
  generalize hml : M.length = q at *
  clear hm hk hml
  have hkm : k + q ≤ m := by have := T3.out; omega
  clear t3
  cases hME : M.isEmpty
  · obtain rfl := T5.out hME
    rw [hME] at HSE
    have hr1 := HR1.out
    have hr2 := HR2.out
    rw [show ((k + 1 : Nat) : Int) = (k : Int) + 1 by omega] at hr2
    clear T4 T5 hME
    have hwk : IntKind.i64.wrap ((k : Int) + 1) = (k : Int) + 1 := IntWalk.i64_in _ (by omega)
    go_enter Tryz.func16, Tryz.ntmps16
    go_wp2_with fail
    refine HSE.out.mono ?_; rintro e w2 ⟨rfl, hk2⟩
    have HK2 := Lib.hid hk2
    clear hk2
    go_wp2_with fail
    refine wp_region_each (S := fun wx => Keeps [] w wx) (by kernel_rfl) (by kernel_rfl) (fun d _ _ _ _ h => by cases d <;> exact h) (HK2.out.drew) (by kernel_rfl) ?_
    repeat (first
      | (refine EachList.cons (.slice a1 k c1) (EachIf.val rfl ?h) ?_; (case h => (intro wx hx; clear hx; go_simp; (try rw [hr1]); done)); simp only [Act.put, List.setIfInBounds_toArray, List.set_cons_zero, List.set_cons_succ])
      | (refine EachList.cons (.slice a2 (m - (k + 1)) c2) (EachIf.val rfl ?h) ?_; (case h => (intro wx hx; clear hx; go_simp; (try rw [hr2]); done)); simp only [Act.put, List.setIfInBounds_toArray, List.set_cons_zero, List.set_cons_succ])
      | (refine EachList.cons ?_ (EachIf.val rfl ?h) ?_; (case h => (intro wx hx; clear hx; go_simp; rfl)); simp only [Act.put, List.setIfInBounds_toArray, List.set_cons_zero, List.set_cons_succ]))
    refine EachList.done fun wx hx => ?_
    have HKX := Lib.hid hx
    clear hx
    go_wp2_with fail
    go_ret2
    exact HP.out _ HKX.out
  · obtain rfl := T4.out hME
    rw [hME] at HSE
    have hr1 := HR1.out
    have hr2 := HR2.out
    rw [Nat.add_zero] at hr2
    clear T4 T5 hME
    go_enter Tryz.func16, Tryz.ntmps16
    go_wp2_with fail
    refine HSE.out.mono ?_; rintro e w2 ⟨rfl, hk2⟩
    have HK2 := Lib.hid hk2
    clear hk2
    go_wp2_with fail
    refine wp_region_each (S := fun wx => Keeps [] w wx) (by kernel_rfl) (by kernel_rfl) (fun d _ _ _ _ h => by cases d <;> exact h) (HK2.out.drew) (by kernel_rfl) ?_
    repeat (first
      | (refine EachList.cons (.slice a1 k c1) (EachIf.val rfl ?h) ?_; (case h => (intro wx hx; clear hx; go_simp; (try rw [hr1]); done)); simp only [Act.put, List.setIfInBounds_toArray, List.set_cons_zero, List.set_cons_succ])
      | (refine EachList.cons (.slice a2 (m - k) c2) (EachIf.val rfl ?h) ?_; (case h => (intro wx hx; clear hx; go_simp; (try rw [hr2]); done)); simp only [Act.put, List.setIfInBounds_toArray, List.set_cons_zero, List.set_cons_succ])
      | (refine EachList.cons ?_ (EachIf.val rfl ?h) ?_; (case h => (intro wx hx; clear hx; go_simp; rfl)); simp only [Act.put, List.setIfInBounds_toArray, List.set_cons_zero, List.set_cons_succ]))
    refine EachList.done fun wx hx => ?_
    have HKX := Lib.hid hx
    clear hx
    go_wp2_with fail
    go_ret2
    exact HP.out _ HKX.out

end Go.Proofs.YtlfkodlnhfdgjaaGreatDoor

namespace Go.Proofs.YtlfkodlnhfdgjaaGreatDoor
open Go.RowKit

/-- append of noughts onto nil: a new row, of elements of whatever size. -/
theorem run_append_noughts {P : Program} (w : World) (t tn e : TypeId) (i : TypeInfo) (z : Value) (kq kn : IntKind) (size : Nat) (ht : P.underlying t = some (.slice e)) (htn : P.underlying tn = some (.int kn)) (hi : P.info? e = some i) (hz : i.zero = some z) (hsz : i.size = size) (hpos : 0 < size) (hzc : z.cells.size = size)
    (k : Nat) (h0 : 0 < k) (hk : k ≤ 1000) (hby : i.bytes ≤ 64) :
    ∃ c w', (∀ ty, (Builtin.append_ #[t, tn] ty #[.slice none 0 0, .int kq k]).run P w = .ok (.slice (some ⟨w.heap.size, 0, none⟩) k c) w') ∧ k ≤ c ∧ w'.ownsRow w.heap.size e size (.slice (some ⟨w.heap.size, 0, none⟩) 0 c) 0 [] ∧ Keeps [] w w' := by
  have hfc : (Builtin.firstCells i.size 0 (.slice none 0 0)).run P w.drew = .ok ([] : List Value).toArray w.drew := by simp [Builtin.firstCells]
  have hnc : Builtin.nextslicecap (0 + k) 0 ≤ 4 * 1000 + 64 := by
    unfold Builtin.nextslicecap
    split <;> omega
  have h1 : k * i.bytes ≤ 281474976710656 := Nat.le_trans (Nat.mul_le_mul hk hby) (by omega)
  have h2 : Builtin.nextslicecap (0 + k) 0 * i.bytes ≤ 281474976710656 := Nat.le_trans (Nat.mul_le_mul hnc hby) (by omega)
  have h := fun ty => Lib.run_append_grow_zeros w t tn ty e i z kq kn ht htn hi hz none 0 0 [] hfc k h0 (by omega) (by omega) (by omega) h1 h2
  have hge := grownCap_ge w (0 + k) 0 e
  have hle := grownCap_le_maxLen w (0 + k) 0 e (by unfold maxLen; omega)
  rw [Nat.zero_add] at hge hle
  simp only [Nat.zero_add] at h
  refine ⟨_, _, h, hge, ⟨by simp, .inr ⟨w.heap.size, grownCap w k 0 e, _, rfl, Nat.le_refl _, Blk.new w.drew _ _, Nat.zero_le _, hle, ?_, by simp⟩⟩, ((Keeps.refl [] w).drew).alloc _⟩
  simp [size_zeroCells', hzc]
  rw [← Nat.add_mul]
  congr 1
  omega

theorem Tryz.info_ent9 : (Tryz.prog.info? 39).map (fun i => (i.zero, i.size, i.bytes)) = some (some (.agg #[.string ⟨#[]⟩, .int .i64 0]), 2, 24) := by kernel_rfl

set_option maxRecDepth 100000 in
set_option maxHeartbeats 2000000 in
theorem growE_at (k : Nat) (hk : k ≤ 1000) (ki : Int) (hki : ki = (k : Int)) (w : World) : Calls Tryz.prog 31 #[.slice none 0 0, .int .i64 ki] w fun e w' =>
    ∃ v, e = .returned v ∧ w'.ownsRow w.heap.size 39 2 v 0 [] ∧ Keeps [] w w' := by
  rcases Nat.eq_zero_or_pos k with rfl | h0
  · obtain rfl : ki = 0 := by omega
    clear hki hk
    go_enter Tryz.func31, Tryz.ntmps31
    go_wp2_with fail
    go_ret
    exact ⟨_, rfl, ⟨rfl, .inl ⟨rfl, rfl⟩⟩, Keeps.refl _ _⟩
  · obtain ⟨i0, hi, hz0, hz1, hz2⟩ := info_parts Tryz.info_ent9
    obtain ⟨c, w', hr, hc, hown, hkk⟩ := run_append_noughts (P := Tryz.prog) w 27 3 39 i0 _ .i64 .i64 2 Tryz.underlying27 Tryz.underlying3 hi hz0 hz1 (by omega) rfl k h0 hk (by rw [hz2]; omega)
    have h1 : ¬ ki < 0 := by omega
    have h2 : 0 < ki := by omega
    have h3 : wrap64 ki = ki := by unfold wrap64; omega
    simp only [← hki] at hr
    have HO := Lib.hid hown
    have HK := Lib.hid hkk
    have hc0 : c ≠ 0 := by omega
    have hc1 : (0 : Int) ≤ (c : Int) := by omega
    clear hown hkk hki hi hz0 hz1 hz2 hc
    go_enter Tryz.func31, Tryz.ntmps31
    go_wp2_with (at_builtin; refine wpList_append_run rfl (.tmp 20) (.tmp 21) 27 3 ?_ (.slice none 0 0) (.int .i64 ki) ?_ ?_ (hr _) ?_; all_goals first | rfl | skip)
    go_ret
    exact ⟨_, rfl, HO.out, HK.out⟩

/-- A slice's cells, in a row. -/
theorem ereads_cells {w : World} {a : Option Addr} {m c g : Nat} {E : List (ByteArray × Int)} (h : EReads w (.slice a m c) g E) (hm : m ≠ 0) : ∃ ad, a = some ad ∧ ∀ j u, (ecells E)[j]? = some u → w.cell? (ad.add j) = some u := by
  obtain ⟨a', c', h1, h2, h3, h4⟩ := h
  cases h1
  obtain ⟨-, off, rfl, hc⟩ := h4 hm
  refine ⟨_, rfl, fun j u hu => ?_⟩
  have hj : j < (ecells E).length := (List.getElem?_eq_some_iff.1 hu).1
  rw [ecells_len] at hj
  obtain ⟨d0, d1⟩ := hc (j / 2) (by omega)
  obtain ⟨e0, e1⟩ := ecells_get E (j / 2) (by omega)
  rw [add_plain]
  rcases Nat.mod_two_eq_zero_or_one j with h | h
  · rw [show off + j = off + j / 2 * 2 by omega, d0, ← e0, show j / 2 * 2 = j by omega, hu]
  · rw [show off + j = off + j / 2 * 2 + 1 by omega, d1, ← e1, show j / 2 * 2 + 1 = j by omega, hu]

def lenTo (Ls : List (List (ByteArray × Int))) (j : Nat) : Nat := (Ls.take j).flatten.length

theorem flat_succ (Ls : List (List (ByteArray × Int))) (j : Nat) (hj : j < Ls.length) : (Ls.take (j + 1)).flatten = (Ls.take j).flatten ++ Ls.getD j [] := by
  rw [List.take_succ_eq_append_getElem hj, List.flatten_append]
  simp [List.getD_eq_getElem?_getD, hj]

theorem lenTo_succ (Ls : List (List (ByteArray × Int))) (j : Nat) (hj : j < Ls.length) : lenTo Ls (j + 1) = lenTo Ls j + (Ls.getD j []).length := by
  unfold lenTo
  rw [flat_succ Ls j hj, List.length_append]

theorem lenTo_le (Ls : List (List (ByteArray × Int))) (j : Nat) : lenTo Ls j ≤ Ls.flatten.length := by
  unfold lenTo
  have := congrArg List.flatten (List.take_append_drop j Ls)
  rw [List.flatten_append] at this
  rw [← this, List.length_append]
  omega

theorem lenTo_all (Ls : List (List (ByteArray × Int))) : lenTo Ls Ls.length = Ls.flatten.length := by
  unfold lenTo
  rw [List.take_length]

/-- What a call leaves that makes a new list of entries. -/
def MadeEnts9 (w : World) (E : List (ByteArray × Int)) (e : Ending) (w' : World) : Prop := ∃ v g, e = .returned v ∧ EReads w' v g E ∧ w.heap.size ≤ g ∧ Keeps [] w w'

set_option maxRecDepth 100000 in
set_option maxHeartbeats 4000000 in
theorem concatE_at {w : World} {gs T : Nat} {xs : List Value} {Ls : List (List (ByteArray × Int))} (hb : Blk w gs xs.toArray T) (hl : xs.length = Ls.length) (hm : xs.length ≤ 10)
    (hr : ∀ j, j < xs.length → ∃ g, EReads w (xs.getD j (.slice none 0 0)) g (Ls.getD j [])) (hn : Ls.flatten.length ≤ 1000) :
    Calls Tryz.prog 18 #[.slice (some ⟨gs, 0, none⟩) xs.length xs.length] w (MadeEnts9 w Ls.flatten) := by
  obtain ⟨i0, hi, hz0, hz1, hz2⟩ := info_parts Tryz.info_ent9
  have HR : Hid (∀ j, j < xs.length → ∃ a c g, xs.getD j (.slice none 0 0) = .slice a (Ls.getD j []).length c ∧ EReads w (.slice a (Ls.getD j []).length c) g (Ls.getD j []) ∧ (Ls.getD j []).length ≤ c ∧ ∀ wx, Keeps [] w wx → wx.cell? ⟨gs, j, none⟩ = some (.slice a (Ls.getD j []).length c)) := fun j hj => by
    obtain ⟨g, hE⟩ := hr j hj
    obtain ⟨a, c, hv, h1, h2, -⟩ := hE.open
    refine ⟨a, c, g, hv, by rw [hv] at hE; exact hE, h1, fun wx hk => ?_⟩
    rw [(hb.keep hk (by simp)).cell, List.getElem?_toArray, ← hv, List.getD_eq_getElem?_getD, List.getElem?_eq_getElem hj]
    rfl
  have HLS : Hid (∀ j, j < xs.length → lenTo Ls (j + 1) = lenTo Ls j + (Ls.getD j []).length ∧ (Ls.take (j + 1)).flatten = (Ls.take j).flatten ++ Ls.getD j []) := fun j hj => ⟨lenTo_succ Ls j (by omega), flat_succ Ls j (by omega)⟩
  have HLE : Hid (∀ j, lenTo Ls j ≤ 1000) := fun j => Nat.le_trans (lenTo_le Ls j) hn
  have HLA : Hid (lenTo Ls xs.length = Ls.flatten.length ∧ (Ls.take xs.length).flatten = Ls.flatten) := by
    show _ ∧ _
    rw [hl]
    exact ⟨lenTo_all Ls, by rw [List.take_length]⟩
  clear hr hb hl hn
  generalize hxm : xs.length = m at *
  clear hxm
  have hg0 := fun (k : Nat) (hk : k ≤ 1000) (ki : Int) (hki : ki = (k : Int)) wx => growE_at k hk ki hki wx
  have HG := Lib.hid hg0
  clear hg0
  go_enter Tryz.func18, Tryz.ntmps18
  go_wp2_with fail
  go_loopg [3, 11] m (fun gh s3 s11 wx => ∃ j : Nat, j + gh = m ∧ s11 = .int .i64 (j : Int) ∧ s3 = .int .i64 ((lenTo Ls j : Nat) : Int) ∧ w = wx)
  case atStart => exact ⟨0, by omega, rfl, rfl, rfl⟩
  case round =>
    obtain ⟨j, hj, rfl, rfl, rfl⟩ := hrel
    cases gk with
    | succ gg =>
      have hjm : j < m := by omega
      have hji : (j : Int) < (m : Int) := by omega
      have hj0 : (0 : Int) ≤ (j : Int) := by omega
      obtain ⟨a, c, g, -, -, hlc, hce⟩ := HR.out j hjm
      have c0 := hce w (Keeps.refl _ _)
      obtain ⟨hls, -⟩ := HLS.out j hjm
      have hle := HLE.out (j + 1)
      have HQ : Hid (((lenTo Ls (j + 1) : Nat) : Int) = ((lenTo Ls j : Nat) : Int) + (((Ls.getD j []).length : Nat) : Int)) := by show _ = _; omega
      rw [hls] at hle
      clear hls hce hlc
      generalize lenTo Ls j = q at *
      generalize (Ls.getD j []).length = l at *
      have hq0 : ¬ (q : Int) + (l : Int) < 0 := by omega
      go_wp2_with fail
      go_roundg gg
      case measure => omega
      case rel => exact ⟨j + 1, by omega, by go_num, by rw [HQ.out], rfl⟩
    | zero =>
      obtain rfl : j = m := by omega
      have hle := HLE.out j
      have hGr := HG.out (lenTo Ls j) hle _ rfl w
      clear HG
      go_wp2_with fail
      refine hGr.mono ?_
      rintro e w1 ⟨v0, rfl, hown, hk1⟩
      have HO := Lib.hid hown
      have HK := Lib.hid hk1
      clear hown hk1 hGr
      go_wp2_with fail
      go_loopg [6, 27] j (fun gh s6 s27 wx => ∃ i : Nat, i + gh = j ∧ s27 = .int .i64 (i : Int) ∧ Hid (wx.ownsRow w.heap.size 39 2 s6 (lenTo Ls i) (ecells (Ls.take i).flatten) ∧ Keeps [] w wx))
      case atStart => exact ⟨0, by omega, rfl, HO.out, HK.out⟩
      case round =>
        clear HO HK
        obtain ⟨i, hij, rfl, HP⟩ := hrel
        obtain ⟨hown, hkp⟩ := HP.out
        cases gk with
        | zero =>
          obtain rfl : i = j := by omega
          have HM : Hid (MadeEnts9 w Ls.flatten (.returned u6) wr) := by
            obtain ⟨g, ho, hg⟩ := Owns.of_row hown
            rw [HLA.out.1, HLA.out.2] at ho
            by_cases h0 : Ls.flatten.length = 0
            · exact ⟨u6, w.heap.size, rfl, (ho.anyG h0 w.heap.size).ereads rfl, Nat.le_refl _, hkp⟩
            · exact ⟨u6, g, rfl, ho.ereads rfl, (hg (by rw [HLA.out.1]; exact h0)).1, hkp⟩
          clear hown hkp HP
          go_wp2_with fail
          go_ret
          exact HM.out
        | succ gg =>
          have him : i < j := by omega
          have hii : (i : Int) < (j : Int) := by omega
          have hi0 : (0 : Int) ≤ (i : Int) := by omega
          obtain ⟨a, c, g, -, hE, hlc, hce⟩ := HR.out i him
          have e0 := hce _ hkp
          obtain ⟨hls, hfl⟩ := HLS.out i him
          have hle2 := HLE.out (i + 1)
          rw [hls] at hle2
          obtain ⟨v', w', hr, ho, hg⟩ := run_append_any (P := Tryz.prog) 27 39 27 i0 _ 2 24 Tryz.underlying27 hi hz0 hz1 hz2 rfl (by omega) w.heap.size (lenTo Ls i) _ _ hown a (Ls.getD i []).length c (ecells (Ls.getD i [])) (ecells_len _) (ereads_cells (hE.keep hkp (by simp))) (ecells_one _) (by unfold maxLen; omega) (by omega) hkp.size
          have HN : Hid (w'.ownsRow w.heap.size 39 2 v' (lenTo Ls (i + 1)) (ecells (Ls.take (i + 1)).flatten) ∧ Keeps [] w w') := by
            refine ⟨?_, hkp.grown hg (ownsRow_block hown)⟩
            rw [hls, hfl, ecells_append]
            exact ho
          clear hown hkp HP ho hg hce hls hfl hE hlc
          generalize (Ls.getD i []).length = l at *
          go_wp2_with (at_builtin; refine wpList_append_run rfl (.tmp 31) (.tmp 32) 27 27 ?_ u6 (.slice a l c) ?_ ?_ hr ?_; all_goals first | rfl | skip)
          go_roundg gg
          case measure => omega
          case rel => exact ⟨i + 1, by omega, by go_num, HN.out⟩

end Go.Proofs.YtlfkodlnhfdgjaaGreatDoor

namespace Go.Proofs.YtlfkodlnhfdgjaaGreatDoor
open Go.RowKit

/-- The inode with other entries; its size goes with them. -/
def setE (n : Ino) (E : List (ByteArray × Int)) : Ino := { n with S := (E.length : Int), E := E }

theorem setE_cells (n : Ino) (v u : Value) (E : List (ByteArray × Int)) (hB : n.B.length = 13) (m : Int) (hm : m = (E.length : Int)) : ((inoC n v).setIfInBounds 17 u).setIfInBounds 3 (.int .i64 m) = inoC (setE n E) u := by
  subst hm
  have h1 : inoC n v = (([.int .i64 n.F, .int .i64 n.K, .int .i64 n.L, .int .i64 n.S] : List Value) ++ (zs n.B ++ [v])).toArray := rfl
  have h2 : (([.int .i64 n.F, .int .i64 n.K, .int .i64 n.L, .int .i64 n.S] : List Value) ++ (zs n.B ++ [v])).set 17 u = ([.int .i64 n.F, .int .i64 n.K, .int .i64 n.L, .int .i64 n.S] : List Value) ++ (zs n.B ++ [u]) := by
    rw [List.set_append_right _ _ (by simp), List.set_append_right _ _ (by rw [zs_len, hB]; simp), zs_len, hB]
    rfl
  rw [h1, List.setIfInBounds_toArray, List.setIfInBounds_toArray, h2]
  rfl

set_option maxRecDepth 100000 in
set_option maxHeartbeats 2000000 in
theorem having_at {w : World} (n : Ino) (v : Value) (hB : n.B.length = 13) {a : Option Addr} {c : Nat} (E : List (ByteArray × Int)) (m : Nat) (hm : m = E.length) :
    Calls Tryz.prog 17 #[.agg (inoC n v), .slice a m c] w fun e w' => e = .returned (.agg (inoC (setE n E) (.slice a m c))) ∧ Keeps [] w w' := by
  have hl : (inoC n v).size = 18 := by rw [inoC, List.size_toArray, inoL_len, hB]
  have hl0 : (inoC inoZ (.slice none 0 0)).size = 18 := rfl
  have hat := inoAt v hB
  have hse := setE_cells n v (.slice a m c) E hB (m : Int) (by omega)
  have hone : ∀ u ∈ inoL (setE n E) (.slice a m c), u.oneCell' = true := inoL_one rfl
  have hzv := zero_ino
  have hcs : inoC (setE n E) (.slice a m c) = (inoL (setE n E) (.slice a m c)).toArray := rfl
  have hll : (inoL (setE n E) (.slice a m c)).length = 18 := by rw [inoL_len]; show n.B.length + 5 = 18; omega
  generalize inoC inoZ (.slice none 0 0) = Z0 at *
  generalize inoC n v = Z at *
  generalize inoC (setE n E) (.slice a m c) = Z1 at *
  generalize inoL (setE n E) (.slice a m c) = ZL at *
  subst hcs
  have hb3 := (Blk.new w ((Z.setIfInBounds 17 (.slice a m c)).setIfInBounds 3 (.int .i64 (m : Int))) 29).alloc (.cells Z0 29)
  have hb5 := Blk.new (w.alloc (.cells ((Z.setIfInBounds 17 (.slice a m c)).setIfInBounds 3 (.int .i64 (m : Int))) 29)) Z0 29
  rw [show (w.alloc (.cells ((Z.setIfInBounds 17 (.slice a m c)).setIfInBounds 3 (.int .i64 (m : Int))) 29)).heap.size = w.heap.size + 1 by simp] at hb5
  have hk3 : Keeps [] w ((w.alloc (.cells ((Z.setIfInBounds 17 (.slice a m c)).setIfInBounds 3 (.int .i64 (m : Int))) 29)).alloc (.cells Z0 29)) := ((Keeps.refl [] w).alloc _).alloc _
  have HLD : Hid ((loadVar 29 ⟨w.heap.size, 0, none⟩).run Tryz.prog ((w.alloc (.cells ((Z.setIfInBounds 17 (.slice a m c)).setIfInBounds 3 (.int .i64 (m : Int))) 29)).alloc (.cells Z0 29)) = .ok (.agg ZL.toArray) ((w.alloc (.cells ((Z.setIfInBounds 17 (.slice a m c)).setIfInBounds 3 (.int .i64 (m : Int))) 29)).alloc (.cells Z0 29))) :=
    run_loadVar_cells _ 0 ZL Tryz.underlying29 rfl (by rw [hll]; exact size_ino) fun j _ => by rw [hb3.cell, hse, Nat.zero_add, List.getElem?_toArray]
  obtain ⟨w5, q1, q2, q3⟩ := store_whole (P := Tryz.prog) (ty := 29) (cs := ZL) (by rw [hll]; exact size_ino) hb5 (by rw [hll]; exact hl0) hone
  have HS := Lib.hid q1
  have HL5 : Hid ((loadVar 29 ⟨w.heap.size + 1, 0, none⟩).run Tryz.prog w5 = .ok (.agg ZL.toArray) w5) :=
    run_loadVar_cells _ 0 ZL Tryz.underlying29 rfl (by rw [hll]; exact size_ino) fun j _ => by rw [q2.cell, Nat.zero_add, List.getElem?_toArray]
  have HKP : Hid (Keeps [] w w5) := hk3.trans q3 (by intro x hx; rw [List.mem_singleton] at hx; omega)
  have hz18 : 17 < Z.size := by omega
  have hz3 : 3 < Z.size := by omega
  clear hb3 hb5 hk3 hat hse hone hl hl0 q1 q2 q3 hm hB hll
  go_enter Tryz.func17, Tryz.ntmps17
  go_wp2_with (first | ((with_reducible show wpList _ _ _ (⟨_, .load 29 (.tmp 2), _, _, _, _⟩ :: _) _ _); refine wpList_load_any rfl 29 (.tmp 2) rfl _ rfl _ HLD.out ?_) | ((with_reducible show wpList _ _ _ (⟨_, .store 29 (.tmp 4) (.tmp 10), _, _, _, _⟩ :: _) _ _); refine wpList_store_any rfl 29 (.tmp 4) (.tmp 10) rfl _ rfl _ rfl _ HS.out ?_))
  exact bodyPost_ret (results_cell Tryz.results17 rfl HL5.out) rfl ⟨rfl, HKP.out⟩

end Go.Proofs.YtlfkodlnhfdgjaaGreatDoor

namespace Go.Proofs.YtlfkodlnhfdgjaaGreatDoor
open Go.RowKit

/-- What With and Without leave: the inode with these entries, which lie in a new block. -/
def EditPost (w : World) (n : Ino) (L : List (ByteArray × Int)) (e : Ending) (w' : World) : Prop := ∃ u g, e = .returned (.agg (inoC (setE n L) u)) ∧ EReads w' u g L ∧ w.heap.size ≤ g ∧ Keeps [] w w'

theorem eone (w : World) (x : ByteArray) (i : Int) (g T : Nat) (hb : Blk w g #[.string x, .int .i64 i] T) : EReads w (.slice (some ⟨g, 0, none⟩) 1 1) g [(x, i)] :=
  ⟨_, 1, rfl, Nat.le_refl _, by unfold maxLen; omega, fun _ => ⟨hb.lt, 0, rfl, fun j hj => by
    obtain rfl : j = 0 := by simpa using hj
    exact ⟨by rw [hb.cell]; rfl, by rw [hb.cell]; rfl⟩⟩⟩

theorem list3 {P : Nat → Prop} (h0 : P 0) (h1 : P 1) (h2 : P 2) : ∀ j, j < 3 → P j := fun j hj => by
  rcases (show j = 0 ∨ j = 1 ∨ j = 2 by omega) with rfl | rfl | rfl
  · exact h0
  · exact h1
  · exact h2

theorem SplitE.newLen {E A M B : List (ByteArray × Int)} {nm : ByteArray} (h : SplitE E A M B nm) (i : Int) : (A ++ ([(nm, i)] ++ B)).length ≤ E.length + 1 ∧ (A ++ B).length ≤ E.length := by
  rw [h.eq]
  simp only [List.length_append, List.length_cons, List.length_nil]
  omega

set_option maxRecDepth 100000 in
set_option maxHeartbeats 4000000 in
theorem with_at9 {w : World} (n : Ino) {v : Value} {g : Nat} {A M B : List (ByteArray × Int)} {nm : ByteArray} (i : Int) (hB : n.B.length = 13) (hE : EReads w v g n.E) (hs : SplitE n.E A M B nm) (hE1 : n.E.length ≤ 500) :
    Calls Tryz.prog 9 #[.agg (inoC n v), .agg #[.string nm, .int .i64 i]] w (EditPost w n (A ++ ([(nm, i)] ++ B))) := by
  have hln := hs.newLen i
  obtain ⟨L, hL⟩ : ∃ L, A ++ ([(nm, i)] ++ B) = L := ⟨_, rfl⟩
  rw [hL] at hln ⊢
  have HL := Lib.hid hL
  have hl0 : (inoC inoZ (.slice none 0 0)).size = 18 := rfl
  have hzv := zero_ino
  have hb0 := ((Blk.new w (inoC n v) 29).alloc (.cells #[.string nm, .int .i64 i] 39)).alloc (.cells (inoC inoZ (.slice none 0 0)) 29)
  have hb1 := (Blk.new (w.alloc (.cells (inoC n v) 29)) #[.string nm, .int .i64 i] 39).alloc (.cells (inoC inoZ (.slice none 0 0)) 29)
  have hb2 := Blk.new ((w.alloc (.cells (inoC n v) 29)).alloc (.cells #[.string nm, .int .i64 i] 39)) (inoC inoZ (.slice none 0 0)) 29
  rw [show (w.alloc (.cells (inoC n v) 29)).heap.size = w.heap.size + 1 by simp] at hb1
  rw [show ((w.alloc (.cells (inoC n v) 29)).alloc (.cells #[.string nm, .int .i64 i] 39)).heap.size = w.heap.size + 2 by simp] at hb2
  have hk2 : Keeps [] w (((w.alloc (.cells (inoC n v) 29)).alloc (.cells #[.string nm, .int .i64 i] 39)).alloc (.cells (inoC inoZ (.slice none 0 0)) 29)) := (((Keeps.refl [] w).alloc _).alloc _).alloc _
  have har := around_at (hE.keep hk2 (by simp)) hs (by omega)
  have HLN : Hid (L.length ≤ 1000) := by show _ ≤ _; omega
  have hat := inoAt v hB
  have hone : ∀ u : Value, u.oneCell' = true → ∀ x ∈ inoL (setE n L) u, x.oneCell' = true := fun u hu => inoL_one hu
  have HONE := Lib.hid hone
  have HHV : Hid (∀ wx a c, Calls Tryz.prog 17 #[.agg (inoC n v), .slice a L.length c] wx fun e w' => e = .returned (.agg (inoC (setE n L) (.slice a L.length c))) ∧ Keeps [] wx w') := fun wx a c => having_at n v hB L _ rfl
  have hll : ∀ u, (inoL (setE n L) u).length = 18 := fun u => by rw [inoL_len]; show n.B.length + 5 = 18; omega
  have HLL := Lib.hid hll
  obtain ⟨a, cap, rfl, hcap, hmax, -⟩ := hE.open
  have h17 := hat.f5
  have HLDN : Hid (∀ wx, Blk wx w.heap.size (inoC n (.slice a n.E.length cap)) 29 → (loadVar 29 ⟨w.heap.size, 0, none⟩).run Tryz.prog wx = .ok (.agg (inoC n (.slice a n.E.length cap))) wx) := fun wx hb => load_ino hb hB
  generalize inoC inoZ (.slice none 0 0) = Z0 at *
  generalize inoC n (.slice a n.E.length cap) = Z at *
  have c17 : (((w.alloc (.cells Z 29)).alloc (.cells #[.string nm, .int .i64 i] 39)).alloc (.cells Z0 29)).cell? ⟨w.heap.size, 17, none⟩ = some (.slice a n.E.length cap) := by rw [hb0.cell]; exact h17
  have HAR := Lib.hid har
  have HB0 := Lib.hid hb0
  have HB1 := Lib.hid hb1
  have HB2 := Lib.hid hb2
  have HK2 := Lib.hid hk2
  have H0 := Lib.hid hl0
  clear har hb0 hb1 hb2 hk2 hat hone hll hl0 hE hs hln hE1 h17 hB hcap hmax hL
  go_enter Tryz.func9, Tryz.ntmps9
  go_wp2_with fail
  refine HAR.out.mono ?_; rintro e w3 ⟨x, y, rfl, hx, hy, hk3⟩
  obtain ⟨a1, c1, hxv, -, -, -⟩ := hx.open
  obtain ⟨a2, c2, hyv, -, -, -⟩ := hy.open
  subst hxv hyv
  have hz3 : w.heap.size + 3 ≤ w3.heap.size := by have := hk3.size; simp at this; omega
  have HZ3 := Lib.hid hz3
  have HB0 := Lib.hid (HB0.out.keep hk3 (by simp))
  have HB1 := Lib.hid (HB1.out.keep hk3 (by simp))
  have HB2 := Lib.hid (HB2.out.keep hk3 (by simp))
  have HK3 := Lib.hid (HK2.out.trans' hk3)
  have HX := Lib.hid (hx.keep hk3 (by simp))
  have HY := Lib.hid (hy.keep hk3 (by simp))
  clear hx hy hk3 HAR hz3 c17
  go_wp2_with fail
  refine wp_region_order (S := fun wx => Keeps [w.heap.size + 2] w3 wx) [0, 1, 2, 4] [3, 5, 6, 7, 8] (l := [_, _, _, _]) (tl := [_, _, _, _, _]) (by kernel_rfl) (by kernel_rfl) (by kernel_rfl) (by kernel_rfl) rfl rfl rfl rfl rfl (fun d _ _ _ _ h => by cases d <;> exact h) (Keeps.refl _ _).drew ?_
  refine YieldList.cons _ (YieldsIf.load rfl 29 (.tmp 2) rfl _ rfl fun wx hx => HLDN.out wx (HB0.out.keep hx (by simp))) ?_
  simp only [Act.put, List.setIfInBounds_toArray, List.set_cons_zero, List.set_cons_succ]
  refine YieldList.cons ?_ (YieldsIf.val rfl ?h) ?_; (case h => (intro wx hx; clear hx; go_simp; rfl)); simp only [Act.put, List.setIfInBounds_toArray, List.set_cons_zero, List.set_cons_succ]
  refine YieldList.cons _ (YieldsIf.load rfl 39 (.tmp 3) rfl _ rfl fun wx hx => load_entry (by rw [(HB1.out.keep hx (by simp)).cell]; rfl) (by rw [(HB1.out.keep hx (by simp)).cell]; rfl)) ?_
  simp only [Act.put, List.setIfInBounds_toArray, List.set_cons_zero, List.set_cons_succ]
  refine YieldList.cons ?_ (YieldsIf.val rfl ?h) ?_; (case h => (intro wx hx; clear hx; go_simp; rfl)); simp only [Act.put, List.setIfInBounds_toArray, List.set_cons_zero, List.set_cons_succ]
  refine YieldList.done ?_
  unfold tailS
  go_wp2_with fail
  refine ⟨((Keeps.refl _ _).drew).alloc _, ?_⟩
  unfold tailS
  go_wp2_with fail
  refine ⟨(((Keeps.refl _ _).drew).alloc _).alloc _, ?_⟩
  unfold tailS
  have hk5 : Keeps [] w3 (((w3.alloc (.cells #[.string nm, .int .i64 i] 39)).alloc (.cells #[.slice a1 A.length c1, .slice (some ⟨w3.heap.size, 0, none⟩) 1 1, .slice a2 B.length c2] 27)).drew) := (((Keeps.refl _ _).alloc _).alloc _).drew
  have hb5 : Blk (((w3.alloc (.cells #[.string nm, .int .i64 i] 39)).alloc (.cells #[.slice a1 A.length c1, .slice (some ⟨w3.heap.size, 0, none⟩) 1 1, .slice a2 B.length c2] 27)).drew) w3.heap.size #[.string nm, .int .i64 i] 39 := ((Blk.new w3 _ _).alloc _).drew
  have hb6 : Blk (((w3.alloc (.cells #[.string nm, .int .i64 i] 39)).alloc (.cells #[.slice a1 A.length c1, .slice (some ⟨w3.heap.size, 0, none⟩) 1 1, .slice a2 B.length c2] 27)).drew) (w3.heap.size + 1) ([.slice a1 A.length c1, .slice (some ⟨w3.heap.size, 0, none⟩) 1 1, .slice a2 B.length c2] : List Value).toArray 27 := by
    have := (Blk.new (w3.alloc (.cells #[.string nm, .int .i64 i] 39)) #[.slice a1 A.length c1, .slice (some ⟨w3.heap.size, 0, none⟩) 1 1, .slice a2 B.length c2] 27).drew
    rwa [show (w3.alloc (.cells #[.string nm, .int .i64 i] 39)).heap.size = w3.heap.size + 1 by simp] at this
  have hfl : [A, [(nm, i)], B].flatten = L := by rw [← HL.out]; simp
  have hx5 := HX.out.keep hk5 (by simp)
  have hy5 := HY.out.keep hk5 (by simp)
  have he5 := eone _ nm i _ _ hb5
  have hcon := concatE_at (Ls := [A, [(nm, i)], B]) hb6 rfl (by simp)
    (list3 (P := fun j => ∃ g, EReads (((w3.alloc (.cells #[.string nm, .int .i64 i] 39)).alloc (.cells #[.slice a1 A.length c1, .slice (some ⟨w3.heap.size, 0, none⟩) 1 1, .slice a2 B.length c2] 27)).drew) (([.slice a1 A.length c1, .slice (some ⟨w3.heap.size, 0, none⟩) 1 1, .slice a2 B.length c2] : List Value).getD j (.slice none 0 0)) g ([A, [(nm, i)], B].getD j [])) ⟨g, hx5⟩ ⟨_, he5⟩ ⟨g, hy5⟩)
    (by rw [hfl]; exact HLN.out)
  rw [hfl] at hcon
  have HCON := Lib.hid hcon
  have HK5 := Lib.hid hk5
  clear hcon hk5 hb5 hb6 hfl hx5 hy5 he5
  go_wp2_with fail
  refine HCON.out.mono ?_; rintro e w6 ⟨u, gu, rfl, hu, hgu, hk6⟩
  obtain ⟨a6, c6, huv, -, -, -⟩ := hu.open
  subst huv
  have HK6 := Lib.hid (HK5.out.trans' hk6)
  have HU := Lib.hid hu
  have HGU : Hid (w3.heap.size ≤ gu) := Nat.le_trans HK5.out.size hgu
  clear hu hgu hk6 HCON HK5
  have HV := Lib.hid (HHV.out w6 a6 c6)
  have HONE6 := Lib.hid (HONE.out (.slice a6 L.length c6) rfl)
  have HLL6 := Lib.hid (HLL.out (.slice a6 L.length c6))
  have HZL : Hid (inoC (setE n L) (.slice a6 L.length c6) = (inoL (setE n L) (.slice a6 L.length c6)).toArray) := rfl
  have HEP : Hid (∀ w', EReads w' (.slice a6 L.length c6) gu L → Keeps [] w w' → EditPost w n L (.returned (.agg (inoC (setE n L) (.slice a6 L.length c6)))) w') := fun w' h1 h2 => ⟨_, gu, rfl, h1, by have := HGU.out; have := HZ3.out; omega, h2⟩
  clear HONE HLL HHV
  generalize inoC (setE n L) (.slice a6 L.length c6) = Z6 at *
  generalize inoL (setE n L) (.slice a6 L.length c6) = ZL at *
  generalize L.length = m at *
  go_wp2_with fail
  refine ⟨HK6.out.mono (by simp), ?_⟩
  unfold tailS
  go_wp2_with fail
  refine HV.out.mono ?_; rintro e w7 ⟨rfl, hk7⟩
  have HK7 := Lib.hid (HK6.out.trans' hk7)
  have HU7 := Lib.hid (HU.out.keep hk7 (by simp))
  obtain ⟨w8, q1, q2, q3⟩ := store_whole (P := Tryz.prog) (ty := 29) (cs := ZL) (by rw [HLL6.out]; exact size_ino) (HB2.out.keep HK7.out (by simp)) (by rw [HLL6.out]; exact H0.out) HONE6.out
  rw [← HZL.out] at q1
  have HS := Lib.hid q1
  have HL8 : Hid ((loadVar 29 ⟨w.heap.size + 2, 0, none⟩).run Tryz.prog w8 = .ok (.agg Z6) w8) := by
    rw [HZL.out]
    exact run_loadVar_cells _ 0 ZL Tryz.underlying29 rfl (by rw [HLL6.out]; exact size_ino) fun j _ => by rw [q2.cell, Nat.zero_add, List.getElem?_toArray]
  have HK8 := Lib.hid ((HK7.out.mono (l' := [w.heap.size + 2]) (by simp)).trans' q3)
  have HF := Lib.hid (HEP.out w8 (HU7.out.keep q3 (by have := HGU.out; have := HZ3.out; intro _ h; rw [List.mem_singleton] at h; omega)) (HK3.out.trans HK8.out (by intro z hz; rw [List.mem_singleton] at hz; omega)))
  clear q1 q2 q3 hk7 HV HEP
  go_wp2_with fail
  refine ⟨HK7.out.mono (by simp), ?_⟩
  unfold tailS
  refine wpList_store_any rfl 29 (.tmp 4) (.tmp 22) rfl ⟨w.heap.size + 2, 0, none⟩ rfl (.agg Z6) rfl w8 HS.out ?_
  go_wp2_with fail
  refine ⟨HK8.out, ?_⟩
  unfold tailS
  go_wp2_with fail
  exact bodyPost_ret (results_cell Tryz.results9 rfl HL8.out) rfl HF.out

end Go.Proofs.YtlfkodlnhfdgjaaGreatDoor

namespace Go.Proofs.YtlfkodlnhfdgjaaGreatDoor
open Go.RowKit

def inoK : Ino := ⟨0, 2, 0, 0, List.replicate 13 0, []⟩
def nmA : ByteArray := ⟨#[97]⟩

theorem store_ino9 {w : World} {g T : Nat} {cur : Array Value} {n : Ino} {v : Value} (hb : Blk w g cur T) (hc : cur.size = 18) (hB : n.B.length = 13) (hv : v.oneCell' = true) :
    ∃ w', (storeVar 29 ⟨g, 0, none⟩ (.agg (inoC n v))).run Tryz.prog w = .ok () w' ∧ Blk w' g (inoC n v) T ∧ Keeps [g] w w' :=
  store_whole (P := Tryz.prog) (ty := 29) (cs := inoL n v) (by rw [inoL_len, hB]; exact size_ino) hb (by rw [hc, inoL_len, hB]) (inoL_one hv)

theorem EReads.one {w : World} {v : Value} {g : Nat} {E : List (ByteArray × Int)} (h : EReads w v g E) : v.oneCell' = true := by
  obtain ⟨a, cap, rfl, -⟩ := h
  rfl

set_option maxRecDepth 100000 in
set_option maxHeartbeats 2000000 in
theorem awake9_at (w : World) : Calls Tryz.prog 4 #[] w fun e w' => e = .returned (.bool true) ∧ Keeps [] w w' := by
  have hwi := with_at9 (w := w) inoK (v := .slice none 0 0) (g := 0) (A := []) (M := []) (B := []) (nm := nmA) 7 rfl (EReads.nil w 0) ⟨rfl, by simp, by simp, .inl rfl⟩ (by show 0 ≤ 500; omega)
  have hLf : ([] ++ ([(nmA, (7 : Int))] ++ []) : List (ByteArray × Int)) = [(nmA, 7)] := rfl
  rw [hLf] at hwi
  unfold EditPost at hwi
  have h1 : inoC inoK (.slice none 0 0) = #[.int .i64 0, .int .i64 2, .int .i64 0, .int .i64 0, .int .i64 0, .int .i64 0, .int .i64 0, .int .i64 0, .int .i64 0, .int .i64 0, .int .i64 0, .int .i64 0, .int .i64 0, .int .i64 0, .int .i64 0, .int .i64 0, .int .i64 0, .slice none 0 0] := rfl
  have hz0 : inoC inoZ (.slice none 0 0) = #[.int .i64 0, .int .i64 0, .int .i64 0, .int .i64 0, .int .i64 0, .int .i64 0, .int .i64 0, .int .i64 0, .int .i64 0, .int .i64 0, .int .i64 0, .int .i64 0, .int .i64 0, .int .i64 0, .int .i64 0, .int .i64 0, .int .i64 0, .slice none 0 0] := rfl
  have hzv := zero_ino
  rw [hz0] at hzv
  rw [h1] at hwi
  have HZ0 := Lib.hid hz0
  have HW := Lib.hid hwi
  have HS : Hid (∀ (w1 : World) (u : Value) (g : Nat), EReads w1 u g [(nmA, 7)] → ∃ w3, (storeVar 29 ⟨w1.heap.size, 0, none⟩ (.agg (inoC (setE inoK [(nmA, 7)]) u))).run Tryz.prog (w1.alloc (.cells #[.int .i64 0, .int .i64 0, .int .i64 0, .int .i64 0, .int .i64 0, .int .i64 0, .int .i64 0, .int .i64 0, .int .i64 0, .int .i64 0, .int .i64 0, .int .i64 0, .int .i64 0, .int .i64 0, .int .i64 0, .int .i64 0, .int .i64 0, .slice none 0 0] 29)) = .ok () w3 ∧
      Keeps [] w1 w3 ∧ (loadVar 29 ⟨w1.heap.size, 0, none⟩).run Tryz.prog w3 = .ok (.agg (inoC (setE inoK [(nmA, 7)]) u)) w3 ∧
      Calls Tryz.prog 10 #[.agg (inoC (setE inoK [(nmA, 7)]) u), .string nmA] w3 (fun e w' => e = .returned (.tuple #[.int .i64 7, .bool true]) ∧ Keeps [] w3 w' ∧ w'.cell? ⟨w1.heap.size, 3, none⟩ = some (.int .i64 1))) := fun w1 u g hE => by
    obtain ⟨w3, q1, q2, q3⟩ := store_ino9 (n := setE inoK [(nmA, 7)]) (v := u) (Blk.new w1 (inoC inoZ (.slice none 0 0)) 29) rfl rfl hE.one
    have hk : Keeps [] w1 w3 := ((Keeps.refl [] w1).alloc _).trans q3 (by intro x hx; rw [List.mem_singleton] at hx; omega)
    refine ⟨w3, q1, hk, load_ino q2 rfl, (find_at (setE inoK [(nmA, 7)]) (A := []) (M := [(nmA, 7)]) (B := []) rfl (hE.keep hk (by simp)) ⟨rfl, by simp, by simp, .inr ⟨7, rfl⟩⟩ (by show 1 ≤ 1000; omega)).mono ?_⟩
    rintro e w' ⟨he, hk'⟩
    exact ⟨he, hk', by rw [(q2.keep hk' (by simp)).cell]; rfl⟩
  clear hwi hz0 h1 hLf
  go_enter Tryz.func4, Tryz.ntmps4
  go_wp2_with fail
  refine HW.out.mono ?_; rintro e w1 ⟨u, g, rfl, hu, hg, hk1⟩
  obtain ⟨w3, q1, hk3, q2, q3⟩ := HS.out w1 u g hu
  have HS1 := Lib.hid q1
  have HL := Lib.hid q2
  have HF := Lib.hid q3
  have HK := Lib.hid (hk1.trans' hk3)
  clear hu hg hk1 q1 q2 q3 hk3 HS HW
  generalize inoC (setE inoK [(nmA, 7)]) u = Z at *
  go_wp2_with (first | ((with_reducible show wpList _ _ _ (⟨_, .load 29 (.tmp 1), _, _, _, _⟩ :: _) _ _); refine wpList_load_any rfl 29 (.tmp 1) rfl _ rfl _ HL.out ?_) | ((with_reducible show wpList _ _ _ (⟨_, .store 29 (.tmp 1) (.tmp 6), _, _, _, _⟩ :: _) _ _); refine wpList_store_any rfl 29 (.tmp 1) (.tmp 6) rfl _ rfl _ rfl _ HS1.out ?_))
  refine HF.out.mono ?_; rintro e w4 ⟨rfl, hk4, c3⟩
  have HKF := Lib.hid (HK.out.trans' hk4)
  clear hk4
  go_wp2_with fail
  go_ret
  exact ⟨rfl, HKF.out⟩

end Go.Proofs.YtlfkodlnhfdgjaaGreatDoor

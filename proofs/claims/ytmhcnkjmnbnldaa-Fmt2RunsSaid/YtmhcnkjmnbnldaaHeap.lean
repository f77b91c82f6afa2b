/-
  Plain facts on worlds: which blocks a call leaves alone ('Keeps'), blocks known whole, slices read by cells. Nothing of the program is named here.
-/
import Derived.WalkKit
import Derived.WalkSpells
import Derived.Deep.QuietTactic
import Derived.Lib.Hide
namespace Go.Proofs.Ytmhcnkjmnbnldaa
open Go.RowKit

/-- All blocks that were there, but those listed, are as they were. -/
structure Keeps (l : List Nat) (w w' : World) : Prop where
  os : w'.os = w.os
  tape : w'.tape = w.tape
  output : w'.output = w.output
  size : w.heap.size ≤ w'.heap.size
  block : ∀ k, k < w.heap.size → k ∉ l → w'.heap[k]? = w.heap[k]?

theorem Keeps.refl (l : List Nat) (w : World) : Keeps l w w := ⟨rfl, rfl, rfl, Nat.le_refl _, fun _ _ _ => rfl⟩

theorem Keeps.mono {l l' : List Nat} {w w' : World} (h : Keeps l w w') (hl : ∀ k, k ∈ l → k < w.heap.size → k ∈ l') : Keeps l' w w' :=
  ⟨h.os, h.tape, h.output, h.size, fun k hk hn => h.block k hk fun hm => hn (hl k hm hk)⟩

/-- Two steps: the second may write what the first may, and what is new since. -/
theorem Keeps.trans {l l' : List Nat} {a b c : World} (h : Keeps l a b) (k : Keeps l' b c) (hl : ∀ x, x ∈ l' → x ∈ l ∨ a.heap.size ≤ x) : Keeps l a c :=
  ⟨k.os.trans h.os, k.tape.trans h.tape, k.output.trans h.output, Nat.le_trans h.size k.size, fun x hx hn =>
    (k.block x (Nat.lt_of_lt_of_le hx h.size) fun hm => (hl x hm).elim hn fun h1 => by omega).trans (h.block x hx hn)⟩

theorem Keeps.trans' {l : List Nat} {a b c : World} (h : Keeps l a b) (k : Keeps l b c) : Keeps l a c := h.trans k fun _ hx => .inl hx

theorem Keeps.drew {l : List Nat} {a w : World} (h : Keeps l a w) : Keeps l a w.drew := ⟨h.os, h.tape, h.output, h.size, h.block⟩

theorem Keeps.drewN {l : List Nat} {a w : World} (h : Keeps l a w) (n : Nat) : Keeps l a (w.drewN n) := ⟨h.os, h.tape, h.output, h.size, h.block⟩

theorem Keeps.alloc {l : List Nat} {a w : World} (h : Keeps l a w) (o : Obj) : Keeps l a (w.alloc o) :=
  h.trans (l' := []) ⟨rfl, rfl, rfl, by simp, fun k hk _ => Below.heap_alloc _ _ _ hk⟩ (by simp)

theorem Keeps.setCell {l : List Nat} {a w : World} (h : Keeps l a w) {p : Addr} (hp : p.block ∈ l ∨ a.heap.size ≤ p.block) (u : Value) : Keeps l a (w.setCell p u) :=
  h.trans (l' := [p.block]) ⟨rfl, rfl, rfl, by simp [World.setCell], fun k _ hn => Below.heap_setCell _ _ _ _ (by simpa using hn)⟩ (by
    intro x hx
    rw [List.mem_singleton] at hx
    subst hx
    exact hp)

theorem Keeps.below {l : List Nat} {w w' : World} (h : Keeps l w w') {B : Nat} (hB : B ≤ w.heap.size) (hl : ∀ k, k ∈ l → B ≤ k) : Below B w w' :=
  ⟨h.os, h.tape, h.output, h.size, fun k hk => h.block k (by omega) fun hm => by have := hl k hm; omega⟩

theorem Keeps.of_below {w w' : World} (h : Below w.heap.size w w') (l : List Nat) : Keeps l w w' := ⟨h.os, h.tape, h.output, h.size, fun k hk _ => h.block k hk⟩

theorem Keeps.of_grown {l : List Nat} {w w' : World} {row : Option Nat} (h : w.grownBy w' row) (hr : ∀ k, row = some k → k ∈ l ∨ w.heap.size ≤ k) : Keeps l w w' :=
  ⟨h.os, h.tape, h.output, h.size, fun k hk hn => h.block k hk fun e => (hr k e.symm).elim hn fun h1 => by omega⟩

/-- Block b is just these cells, none frozen. -/
def Blk (w : World) (b : Nat) (c : Array Value) (T : Nat) : Prop := w.heap[b]? = some (.cells c T (0, 0))

theorem Blk.lt {w : World} {b : Nat} {c : Array Value} {T : Nat} (h : Blk w b c T) : b < w.heap.size := (Array.getElem?_eq_some_iff.1 h).1

theorem Blk.keep {w w' : World} {b : Nat} {c : Array Value} {T : Nat} (h : Blk w b c T) {l : List Nat} (hk : Keeps l w w') (hb : b ∉ l) : Blk w' b c T :=
  (hk.block b h.lt hb).trans h

theorem Blk.cell {w : World} {b : Nat} {c : Array Value} {T : Nat} (h : Blk w b c T) (o : Nat) : w.cell? ⟨b, o, none⟩ = c[o]? := by
  unfold Blk at h; simp [World.cell?, h]

theorem Blk.frozen {w : World} {b : Nat} {c : Array Value} {T : Nat} (h : Blk w b c T) (o : Nat) : w.frozen? ⟨b, o, none⟩ = false := by
  unfold Blk at h; simp [World.frozen?, h]

theorem Blk.set {w : World} {b : Nat} {c : Array Value} {T : Nat} (h : Blk w b c T) (o : Nat) (v : Value) : Blk (w.setCell ⟨b, o, none⟩ v) b (c.setIfInBounds o v) T := by
  unfold Blk at *; simp [World.setCell, Array.getElem?_modify, h]

theorem Blk.other {w : World} {b : Nat} {c : Array Value} {T : Nat} (h : Blk w b c T) {a : Addr} (hne : b ≠ a.block) (v : Value) : Blk (w.setCell a v) b c T := by
  unfold Blk at *; rw [Below.heap_setCell _ _ _ _ hne]; exact h

theorem Blk.alloc {w : World} {b : Nat} {c : Array Value} {T : Nat} (h : Blk w b c T) (o : Obj) : Blk (w.alloc o) b c T :=
  h.keep ((Keeps.refl [] w).alloc o) (by simp)

theorem Blk.new (w : World) (c : Array Value) (T : Nat) : Blk (w.alloc (.cells c T)) w.heap.size c T := by
  unfold Blk; exact heap_alloc_new w _

theorem Blk.drew {w : World} {b : Nat} {c : Array Value} {T : Nat} (h : Blk w b c T) : Blk w.drew b c T := h
theorem Blk.drewN {w : World} {b : Nat} {c : Array Value} {T : Nat} (h : Blk w b c T) (n : Nat) : Blk (w.drewN n) b c T := h

/-- The slice value v reads as the cells xs (one cell each), which lie in block g (whatever g, if there are none). -/
def Reads (w : World) (v : Value) (g : Nat) (xs : List Value) : Prop :=
  ∃ a cap, v = .slice a xs.length cap ∧ xs.length ≤ cap ∧ cap ≤ maxLen ∧ (xs ≠ [] → g < w.heap.size ∧ ∃ off, a = some ⟨g, off, none⟩ ∧ ∀ j, j < xs.length → w.cell? ⟨g, off + j, none⟩ = xs[j]?)

theorem Reads.keep {w w' : World} {v : Value} {g : Nat} {xs : List Value} (h : Reads w v g xs) {l : List Nat} (hk : Keeps l w w') (hg : g ∉ l) : Reads w' v g xs := by
  obtain ⟨a, cap, h1, h2, h3, h4⟩ := h
  refine ⟨a, cap, h1, h2, h3, fun hx => ?_⟩
  obtain ⟨hlt, off, h5, h6⟩ := h4 hx
  refine ⟨Nat.lt_of_lt_of_le hlt hk.size, off, h5, fun j hj => ?_⟩
  rw [World.cell?_of_block (w := w) (hk.block g hlt hg)]
  exact h6 j hj

/-- The slice value v owns block g (if it has elements): its n elements of sz cells each are xs, none frozen. -/
def Owns (w : World) (v : Value) (g : Nat) (T sz n : Nat) (xs : List Value) : Prop :=
  xs.length = n * sz ∧ ∃ a cap, v = .slice a n cap ∧ n ≤ cap ∧ cap ≤ maxLen ∧ (n ≠ 0 → a = some ⟨g, 0, none⟩ ∧ ∃ c : Array Value, Blk w g c T ∧ c.size = cap * sz ∧ c.toList.take (n * sz) = xs)

theorem Owns.keep {w w' : World} {v : Value} {g T sz n : Nat} {xs : List Value} (h : Owns w v g T sz n xs) {l : List Nat} (hk : Keeps l w w') (hg : g ∉ l) : Owns w' v g T sz n xs := by
  obtain ⟨h0, a, cap, h1, h2, h3, h4⟩ := h
  refine ⟨h0, a, cap, h1, h2, h3, fun hx => ?_⟩
  obtain ⟨h5, c, h6, h7⟩ := h4 hx
  exact ⟨h5, c, h6.keep hk hg, h7⟩

theorem Owns.keepIf {w w' : World} {v : Value} {g T sz n : Nat} {xs : List Value} (h : Owns w v g T sz n xs) {l : List Nat} (hk : Keeps l w w') (hg : n ≠ 0 → g ∉ l) : Owns w' v g T sz n xs := by
  obtain ⟨h0, a, cap, h1, h2, h3, h4⟩ := h
  refine ⟨h0, a, cap, h1, h2, h3, fun hx => ?_⟩
  obtain ⟨h5, c, h6, h7⟩ := h4 hx
  exact ⟨h5, c, h6.keep hk (hg hx), h7⟩

theorem Owns.len {w : World} {v : Value} {g T sz n : Nat} {xs : List Value} (h : Owns w v g T sz n xs) : xs.length = n * sz := h.1

theorem getElem?_of_take {α : Type} {c : List α} {m : Nat} {xs : List α} (h : c.take m = xs) {j : Nat} (hj : j < m) : c[j]? = xs[j]? := by
  rw [← h, List.getElem?_take, if_pos hj]

theorem Owns.reads {w : World} {v : Value} {g T n : Nat} {xs : List Value} (h : Owns w v g T 1 n xs) : Reads w v g xs := by
  obtain ⟨h0, a, cap, h1, h2, h3, h4⟩ := h
  have hn : xs.length = n := by omega
  refine ⟨a, cap, by rw [hn]; exact h1, by omega, h3, fun hx => ?_⟩
  have : n ≠ 0 := fun e => hx (List.eq_nil_of_length_eq_zero (by omega))
  obtain ⟨h5, c, h6, h7, h8⟩ := h4 this
  refine ⟨h6.lt, 0, h5, fun j hj => ?_⟩
  rw [h6.cell, ← Array.getElem?_toList]
  simpa using getElem?_of_take h8 (j := j) (by omega)

/-- One cell of an owned row is written. -/
theorem Owns.set {w : World} {v : Value} {g T sz n : Nat} {xs : List Value} (h : Owns w v g T sz n xs) (j : Nat) (u : Value) : Owns (w.setCell ⟨g, j, none⟩ u) v g T sz n (xs.set j u) := by
  obtain ⟨h0, a, cap, h1, h2, h3, h4⟩ := h
  refine ⟨by simpa using h0, a, cap, h1, h2, h3, fun hx => ?_⟩
  obtain ⟨h5, c, h6, h7, h8⟩ := h4 hx
  refine ⟨h5, _, h6.set j u, by simpa using h7, ?_⟩
  rw [Array.toList_setIfInBounds, List.take_set, h8]

theorem Owns.drew {w : World} {v : Value} {g T sz n : Nat} {xs : List Value} (h : Owns w v g T sz n xs) : Owns w.drew v g T sz n xs := h

theorem Owns.alloc {w : World} {v : Value} {g T sz n : Nat} {xs : List Value} (h : Owns w v g T sz n xs) (o : Obj) : Owns (w.alloc o) v g T sz n xs :=
  h.keep ((Keeps.refl [] w).alloc o) (by simp)

/-- The cell of an owned row. -/
theorem Owns.cell {w : World} {v : Value} {g T sz n : Nat} {xs : List Value} (h : Owns w v g T sz n xs) (hn : n ≠ 0) : g < w.heap.size ∧ (∃ cap, v = .slice (some ⟨g, 0, none⟩) n cap ∧ n ≤ cap ∧ cap ≤ maxLen) ∧ (∀ j, j < n * sz → w.cell? ⟨g, j, none⟩ = xs[j]?) ∧ ∀ j, w.frozen? ⟨g, j, none⟩ = false := by
  obtain ⟨h0, a, cap, h1, h2, h3, h4⟩ := h
  obtain ⟨h5, c, h6, h7, h8⟩ := h4 hn
  subst h5
  refine ⟨h6.lt, ⟨cap, h1, h2, h3⟩, fun j hj => ?_, fun j => h6.frozen j⟩
  rw [h6.cell, ← Array.getElem?_toList]
  exact getElem?_of_take h8 hj

/-- The shape of an owned slice's value. -/
theorem Owns.val {w : World} {v : Value} {g T sz n : Nat} {xs : List Value} (h : Owns w v g T sz n xs) : ∃ a cap, v = .slice a n cap ∧ n ≤ cap ∧ cap ≤ maxLen := by
  obtain ⟨h0, a, cap, h1, h2, h3, h4⟩ := h
  exact ⟨a, cap, h1, h2, h3⟩

theorem Owns.nil (w : World) (g T sz : Nat) : Owns w (.slice none 0 0) g T sz 0 [] := ⟨by simp, none, 0, rfl, by simp, by simp [maxLen], fun h => absurd rfl h⟩

theorem Owns.of_zero (w : World) (a : Option Addr) (cap : Nat) (h : cap ≤ maxLen) (g T sz : Nat) : Owns w (.slice a 0 cap) g T sz 0 [] := ⟨by simp, a, cap, rfl, by simp, h, fun h => absurd rfl h⟩

/-- Of no elements, whatever block is named. -/
theorem Owns.anyG {w : World} {v : Value} {g T sz n : Nat} {xs : List Value} (h : Owns w v g T sz n xs) (hn : n = 0) (g' : Nat) : Owns w v g' T sz n xs := by
  obtain ⟨h0, a, cap, h1, h2, h3, h4⟩ := h
  exact ⟨h0, a, cap, h1, h2, h3, fun h => absurd hn h⟩

theorem Owns.of_row {w : World} {base T sz : Nat} {v : Value} {n : Nat} {xs : List Value} (h : w.ownsRow base T sz v n xs) : ∃ g, Owns w v g T sz n xs ∧ (n ≠ 0 → base ≤ g ∧ v.ownBlock = some g) := by
  obtain ⟨h0, h1⟩ := h
  rcases h1 with ⟨rfl, rfl⟩ | ⟨g, cap, cur, rfl, hg, hh, h2, h3, h4, h5⟩
  · obtain rfl : xs = [] := List.eq_nil_of_length_eq_zero (by omega)
    exact ⟨0, Owns.nil w 0 T sz, fun h => absurd rfl h⟩
  · exact ⟨g, ⟨h0, _, cap, rfl, h2, h3, fun _ => ⟨rfl, cur, hh, h4, h5⟩⟩, fun _ => ⟨hg, rfl⟩⟩

theorem Keeps.setRow {l : List Nat} {a w : World} (h : Keeps l a w) {g : Nat} (hp : g ∈ l ∨ a.heap.size ≤ g) (c : Array Value) : Keeps l a (w.setRow g c) :=
  h.trans (l' := [g]) ⟨rfl, rfl, rfl, by simp [World.setRow], fun k _ hn => setRow_other w g k _ (by simpa using hn)⟩ (by
    intro x hx
    rw [List.mem_singleton] at hx
    subst hx
    exact hp)

theorem size_zeroCells' (z : Array Value) (n : Nat) : (Builtin.zeroCells z n).size = n * z.size := by simp [Builtin.zeroCells]

/-- clear(v) of an owned slice. -/
theorem run_clear_owns {P : Program} {w : World} {t e ty sz n g T : Nat} {z v : Value} {xs : List Value} (ht : P.underlying t = some (.slice e)) (hz : ∀ w, (zeroValue e).run P w = .ok z w)
    (hzs : z.cells.size = sz) (h1 : ∀ u ∈ (Builtin.zeroCells z.cells n).toList, u.oneCell' = true) (h : Owns w v g T sz n xs) :
    ∃ w', (Builtin.clear_ #[t] ty #[v]).run P w = .ok (.tuple #[]) w' ∧ Owns w' v g T sz n (Builtin.zeroCells z.cells n).toList ∧ Keeps [g] w w' := by
  obtain ⟨h0, a, cap, rfl, h2, h3, h4⟩ := h
  by_cases hn : n = 0
  · subst hn
    refine ⟨w, ?_, ⟨by simp [size_zeroCells'], a, cap, rfl, h2, h3, fun h => absurd rfl h⟩, Keeps.refl _ _⟩
    cases a <;> simp [Builtin.clear_, run_underlying ht]
  · obtain ⟨rfl, c, hc, hs, hk⟩ := h4 hn
    have hl : (Builtin.zeroCells z.cells n).toList.length = n * sz := by rw [Array.length_toList, size_zeroCells', hzs]
    have hcs : n * sz ≤ c.size := by rw [hs]; exact Nat.mul_le_mul_right _ h2
    have hr := run_storeCells_at P g 0 T (Builtin.zeroCells z.cells n).toList 0 c w hc (by rw [hl]; omega) h1
    simp only [Nat.add_zero, List.take_zero, List.nil_append, Nat.zero_add] at hr
    generalize hC : ((Builtin.zeroCells z.cells n).toList ++ List.drop (Builtin.zeroCells z.cells n).toList.length c.toList).toArray = C at hr
    refine ⟨w.setRow g C, ?_, ⟨hl, _, cap, rfl, h2, h3, fun _ => ⟨rfl, C, setRow_heap w g c _ T _ hc, ?_, ?_⟩⟩, (Keeps.refl _ _).setRow (by simp) _⟩
    · cases n with
      | zero => exact absurd rfl hn
      | succ n => simp [Builtin.clear_, run_underlying ht, hz, hr]
    · rw [← hC, List.size_toArray, List.length_append, List.length_drop, hl, Array.length_toList]; omega
    · rw [← hl, ← hC]; exact List.take_left

/-- A value in its own place changes nothing. -/
theorem set_getD_self {α : Type} (l : List α) (i : Nat) (d : α) : l.set i (l.getD i d) = l := by
  apply List.ext_getElem?
  intro j
  rw [List.getElem?_set]
  split
  · rename_i hj
    subst hj
    split
    · rename_i hi; simp [hi]
    · rename_i hi; simp at hi; simp [hi]
  · rfl

end Go.Proofs.Ytmhcnkjmnbnldaa

/-
  Layer 5 (palloc): the bits of a word as plain numbers: how many are set, which, and how the counting of math/bits comes to it. Nothing of the program is named here. Plain facts on worlds: which blocks a call leaves alone ('Keeps'), blocks known whole, slices read by cells. Nothing of the program is named here. What the reading of arguments says of cells: slices of integers, slices of whatever. Layer 2 (pack): bytes of words, names and sums, plain. Nothing of the program is named here. Layer 3 (plog): pairs, their places and lines, what a commit leaves: plain. Nothing of the program is named here. Slices of words (u64s) and of pairs (pcells, PReads) in memory, and what calls leave that make them. Nothing of the program is named here. Layer 4 (tx): a sheet as plain lists: words beneath, puts, notes of what was there. Nothing of the program is named here.
-/
import Derived.Lib.TrailingZeros
import Derived.WalkKit
import Derived.WalkSpells
import Derived.Deep.QuietTactic
import Derived.Lib.Hide
import Derived.ProofKit
import Derived.OpenShut
import Derived.Deep.Slices
import Derived.Laws.BitsAllLaws
import Derived.WalkLawsBesides
import Derived.Laws.AppendOwn
namespace Go.Proofs.Ytlfkodlnhfdgjaa

/-- How many of the lowest n bits are set. -/
def ones (n x : Nat) : Nat := ((List.range n).filter fun j => x.testBit j).length

def q1 (b : Nat) : Nat := (b / 2 &&& 85) + (b &&& 85)
def q2 (b : Nat) : Nat := (b / 4 &&& 51) + (b &&& 51)
def q3 (b : Nat) : Nat := (b / 16 + b) % 16

end Go.Proofs.Ytlfkodlnhfdgjaa

namespace Go.Proofs.Ytlfkodlnhfdgjaa
open Go.RowKit

/-- All blocks that were there, but those listed, are as they were. -/
structure Keeps (l : List Nat) (w w' : World) : Prop where
  os : w'.os = w.os
  tape : w'.tape = w.tape
  output : w'.output = w.output
  size : w.heap.size ≤ w'.heap.size
  block : ∀ k, k < w.heap.size → k ∉ l → w'.heap[k]? = w.heap[k]?

theorem Keeps.refl (l : List Nat) (w : World) : Keeps l w w := ⟨rfl, rfl, rfl, Nat.le_refl _, fun _ _ _ => rfl⟩

theorem Keeps.mono {l l' : List Nat} {w w' : World} (h : Keeps l w w') (hl : ∀ k, k ∈ l → k < w.heap.size → k ∈ l') : Keeps l' w w' :=
  ⟨h.os, h.tape, h.output, h.size, fun k hk hn => h.block k hk fun hm => hn (hl k hm hk)⟩

/-- Two steps: the second may write what the first may, and what is new since. -/
theorem Keeps.trans {l l' : List Nat} {a b c : World} (h : Keeps l a b) (k : Keeps l' b c) (hl : ∀ x, x ∈ l' → x ∈ l ∨ a.heap.size ≤ x) : Keeps l a c :=
  ⟨k.os.trans h.os, k.tape.trans h.tape, k.output.trans h.output, Nat.le_trans h.size k.size, fun x hx hn =>
    (k.block x (Nat.lt_of_lt_of_le hx h.size) fun hm => (hl x hm).elim hn fun h1 => by omega).trans (h.block x hx hn)⟩

theorem Keeps.trans' {l : List Nat} {a b c : World} (h : Keeps l a b) (k : Keeps l b c) : Keeps l a c := h.trans k fun _ hx => .inl hx

theorem Keeps.drew {l : List Nat} {a w : World} (h : Keeps l a w) : Keeps l a w.drew := ⟨h.os, h.tape, h.output, h.size, h.block⟩

theorem Keeps.alloc {l : List Nat} {a w : World} (h : Keeps l a w) (o : Obj) : Keeps l a (w.alloc o) :=
  h.trans (l' := []) ⟨rfl, rfl, rfl, by simp, fun k hk _ => Below.heap_alloc _ _ _ hk⟩ (by simp)

theorem Keeps.setCell {l : List Nat} {a w : World} (h : Keeps l a w) {p : Addr} (hp : p.block ∈ l ∨ a.heap.size ≤ p.block) (u : Value) : Keeps l a (w.setCell p u) :=
  h.trans (l' := [p.block]) ⟨rfl, rfl, rfl, by simp [World.setCell], fun k _ hn => Below.heap_setCell _ _ _ _ (by simpa using hn)⟩ (by
    intro x hx
    rw [List.mem_singleton] at hx
    subst hx
    exact hp)

theorem Keeps.below {l : List Nat} {w w' : World} (h : Keeps l w w') {B : Nat} (hB : B ≤ w.heap.size) (hl : ∀ k, k ∈ l → B ≤ k) : Below B w w' :=
  ⟨h.os, h.tape, h.output, h.size, fun k hk => h.block k (by omega) fun hm => by have := hl k hm; omega⟩

/-- Block b is just these cells, none frozen. -/
def Blk (w : World) (b : Nat) (c : Array Value) (T : Nat) : Prop := w.heap[b]? = some (.cells c T (0, 0))

theorem Blk.lt {w : World} {b : Nat} {c : Array Value} {T : Nat} (h : Blk w b c T) : b < w.heap.size := (Array.getElem?_eq_some_iff.1 h).1

theorem Blk.keep {w w' : World} {b : Nat} {c : Array Value} {T : Nat} (h : Blk w b c T) {l : List Nat} (hk : Keeps l w w') (hb : b ∉ l) : Blk w' b c T :=
  (hk.block b h.lt hb).trans h

theorem Blk.cell {w : World} {b : Nat} {c : Array Value} {T : Nat} (h : Blk w b c T) (o : Nat) : w.cell? ⟨b, o, none⟩ = c[o]? := by
  unfold Blk at h; simp [World.cell?, h]

theorem Blk.frozen {w : World} {b : Nat} {c : Array Value} {T : Nat} (h : Blk w b c T) (o : Nat) : w.frozen? ⟨b, o, none⟩ = false := by
  unfold Blk at h; simp [World.frozen?, h]

theorem Blk.set {w : World} {b : Nat} {c : Array Value} {T : Nat} (h : Blk w b c T) (o : Nat) (v : Value) : Blk (w.setCell ⟨b, o, none⟩ v) b (c.setIfInBounds o v) T := by
  unfold Blk at *; simp [World.setCell, Array.getElem?_modify, h]

theorem Blk.other {w : World} {b : Nat} {c : Array Value} {T : Nat} (h : Blk w b c T) {a : Addr} (hne : b ≠ a.block) (v : Value) : Blk (w.setCell a v) b c T := by
  unfold Blk at *; rw [Below.heap_setCell _ _ _ _ hne]; exact h

theorem Blk.alloc {w : World} {b : Nat} {c : Array Value} {T : Nat} (h : Blk w b c T) (o : Obj) : Blk (w.alloc o) b c T :=
  h.keep ((Keeps.refl [] w).alloc o) (by simp)

theorem Blk.new (w : World) (c : Array Value) (T : Nat) : Blk (w.alloc (.cells c T)) w.heap.size c T := by
  unfold Blk; exact heap_alloc_new w _

theorem Blk.drew {w : World} {b : Nat} {c : Array Value} {T : Nat} (h : Blk w b c T) : Blk w.drew b c T := h
/-- The slice value v reads as the cells xs (one cell each), which lie in block g (whatever g, if there are none). -/
def Reads (w : World) (v : Value) (g : Nat) (xs : List Value) : Prop :=
  ∃ a cap, v = .slice a xs.length cap ∧ xs.length ≤ cap ∧ cap ≤ maxLen ∧ (xs ≠ [] → g < w.heap.size ∧ ∃ off, a = some ⟨g, off, none⟩ ∧ ∀ j, j < xs.length → w.cell? ⟨g, off + j, none⟩ = xs[j]?)

theorem Reads.keep {w w' : World} {v : Value} {g : Nat} {xs : List Value} (h : Reads w v g xs) {l : List Nat} (hk : Keeps l w w') (hg : g ∉ l) : Reads w' v g xs := by
  obtain ⟨a, cap, h1, h2, h3, h4⟩ := h
  refine ⟨a, cap, h1, h2, h3, fun hx => ?_⟩
  obtain ⟨hlt, off, h5, h6⟩ := h4 hx
  refine ⟨Nat.lt_of_lt_of_le hlt hk.size, off, h5, fun j hj => ?_⟩
  rw [World.cell?_of_block (w := w) (hk.block g hlt hg)]
  exact h6 j hj

/-- The slice value v owns block g (if it has elements): its n elements of sz cells each are xs, none frozen. -/
def Owns (w : World) (v : Value) (g : Nat) (T sz n : Nat) (xs : List Value) : Prop :=
  xs.length = n * sz ∧ ∃ a cap, v = .slice a n cap ∧ n ≤ cap ∧ cap ≤ maxLen ∧ (n ≠ 0 → a = some ⟨g, 0, none⟩ ∧ ∃ c : Array Value, Blk w g c T ∧ c.size = cap * sz ∧ c.toList.take (n * sz) = xs)

theorem Owns.keep {w w' : World} {v : Value} {g T sz n : Nat} {xs : List Value} (h : Owns w v g T sz n xs) {l : List Nat} (hk : Keeps l w w') (hg : g ∉ l) : Owns w' v g T sz n xs := by
  obtain ⟨h0, a, cap, h1, h2, h3, h4⟩ := h
  refine ⟨h0, a, cap, h1, h2, h3, fun hx => ?_⟩
  obtain ⟨h5, c, h6, h7⟩ := h4 hx
  exact ⟨h5, c, h6.keep hk hg, h7⟩

theorem Owns.len {w : World} {v : Value} {g T sz n : Nat} {xs : List Value} (h : Owns w v g T sz n xs) : xs.length = n * sz := h.1

theorem getElem?_of_take {α : Type} {c : List α} {m : Nat} {xs : List α} (h : c.take m = xs) {j : Nat} (hj : j < m) : c[j]? = xs[j]? := by
  rw [← h, List.getElem?_take, if_pos hj]

theorem Owns.reads {w : World} {v : Value} {g T n : Nat} {xs : List Value} (h : Owns w v g T 1 n xs) : Reads w v g xs := by
  obtain ⟨h0, a, cap, h1, h2, h3, h4⟩ := h
  have hn : xs.length = n := by omega
  refine ⟨a, cap, by rw [hn]; exact h1, by omega, h3, fun hx => ?_⟩
  have : n ≠ 0 := fun e => hx (List.eq_nil_of_length_eq_zero (by omega))
  obtain ⟨h5, c, h6, h7, h8⟩ := h4 this
  refine ⟨h6.lt, 0, h5, fun j hj => ?_⟩
  rw [h6.cell, ← Array.getElem?_toList]
  simpa using getElem?_of_take h8 (j := j) (by omega)

/-- One cell of an owned row is written. -/
theorem Owns.set {w : World} {v : Value} {g T sz n : Nat} {xs : List Value} (h : Owns w v g T sz n xs) (j : Nat) (u : Value) : Owns (w.setCell ⟨g, j, none⟩ u) v g T sz n (xs.set j u) := by
  obtain ⟨h0, a, cap, h1, h2, h3, h4⟩ := h
  refine ⟨by simpa using h0, a, cap, h1, h2, h3, fun hx => ?_⟩
  obtain ⟨h5, c, h6, h7, h8⟩ := h4 hx
  refine ⟨h5, _, h6.set j u, by simpa using h7, ?_⟩
  rw [Array.toList_setIfInBounds, List.take_set, h8]

theorem Owns.drew {w : World} {v : Value} {g T sz n : Nat} {xs : List Value} (h : Owns w v g T sz n xs) : Owns w.drew v g T sz n xs := h

theorem Owns.alloc {w : World} {v : Value} {g T sz n : Nat} {xs : List Value} (h : Owns w v g T sz n xs) (o : Obj) : Owns (w.alloc o) v g T sz n xs :=
  h.keep ((Keeps.refl [] w).alloc o) (by simp)

/-- The cell of an owned row. -/
theorem Owns.cell {w : World} {v : Value} {g T sz n : Nat} {xs : List Value} (h : Owns w v g T sz n xs) (hn : n ≠ 0) : g < w.heap.size ∧ (∃ cap, v = .slice (some ⟨g, 0, none⟩) n cap ∧ n ≤ cap ∧ cap ≤ maxLen) ∧ (∀ j, j < n * sz → w.cell? ⟨g, j, none⟩ = xs[j]?) ∧ ∀ j, w.frozen? ⟨g, j, none⟩ = false := by
  obtain ⟨h0, a, cap, h1, h2, h3, h4⟩ := h
  obtain ⟨h5, c, h6, h7, h8⟩ := h4 hn
  subst h5
  refine ⟨h6.lt, ⟨cap, h1, h2, h3⟩, fun j hj => ?_, fun j => h6.frozen j⟩
  rw [h6.cell, ← Array.getElem?_toList]
  exact getElem?_of_take h8 hj

/-- The shape of an owned slice's value. -/
theorem Owns.val {w : World} {v : Value} {g T sz n : Nat} {xs : List Value} (h : Owns w v g T sz n xs) : ∃ a cap, v = .slice a n cap ∧ n ≤ cap ∧ cap ≤ maxLen := by
  obtain ⟨h0, a, cap, h1, h2, h3, h4⟩ := h
  exact ⟨a, cap, h1, h2, h3⟩

theorem Owns.nil (w : World) (g T sz : Nat) : Owns w (.slice none 0 0) g T sz 0 [] := ⟨by simp, none, 0, rfl, by simp, by simp [maxLen], fun h => absurd rfl h⟩

/-- Of no elements, whatever block is named. -/
theorem Owns.anyG {w : World} {v : Value} {g T sz n : Nat} {xs : List Value} (h : Owns w v g T sz n xs) (hn : n = 0) (g' : Nat) : Owns w v g' T sz n xs := by
  obtain ⟨h0, a, cap, h1, h2, h3, h4⟩ := h
  exact ⟨h0, a, cap, h1, h2, h3, fun h => absurd hn h⟩

theorem Owns.of_row {w : World} {base T sz : Nat} {v : Value} {n : Nat} {xs : List Value} (h : w.ownsRow base T sz v n xs) : ∃ g, Owns w v g T sz n xs ∧ (n ≠ 0 → base ≤ g ∧ v.ownBlock = some g) := by
  obtain ⟨h0, h1⟩ := h
  rcases h1 with ⟨rfl, rfl⟩ | ⟨g, cap, cur, rfl, hg, hh, h2, h3, h4, h5⟩
  · obtain rfl : xs = [] := List.eq_nil_of_length_eq_zero (by omega)
    exact ⟨0, Owns.nil w 0 T sz, fun h => absurd rfl h⟩
  · exact ⟨g, ⟨h0, _, cap, rfl, h2, h3, fun _ => ⟨rfl, cur, hh, h4, h5⟩⟩, fun _ => ⟨hg, rfl⟩⟩

theorem Keeps.setRow {l : List Nat} {a w : World} (h : Keeps l a w) {g : Nat} (hp : g ∈ l ∨ a.heap.size ≤ g) (c : Array Value) : Keeps l a (w.setRow g c) :=
  h.trans (l' := [g]) ⟨rfl, rfl, rfl, by simp [World.setRow], fun k _ hn => setRow_other w g k _ (by simpa using hn)⟩ (by
    intro x hx
    rw [List.mem_singleton] at hx
    subst hx
    exact hp)

theorem size_zeroCells' (z : Array Value) (n : Nat) : (Builtin.zeroCells z n).size = n * z.size := by simp [Builtin.zeroCells]

end Go.Proofs.Ytlfkodlnhfdgjaa

namespace Go.Proofs.Ytlfkodlnhfdgjaa
open Go.ChangeShapes Go.WideShapes Go.ChangeAt Go.RowKit

section
variable {H : Type} {enc : TypeId × Value → H} {P : Program} {W : World} {base : Nat} {spare : Nat → Bool} {held : Bool}

/-- The address of a row that has a cell is plain. -/
theorem plain_addr {a : Addr} {n : Nat} {v : Value} (h : W.cell? (a.add n) = some v) (hz : n = 0) : ∃ g off, a = ⟨g, off, none⟩ := by
  subst hz
  have : a.add 0 = a := by simp [Addr.add]
  rw [this] at h
  obtain ⟨g, off, spot⟩ := a
  have := World.cell?_spot h
  simp at this
  subst this
  exact ⟨g, off, rfl⟩

theorem add_plain (g off n : Nat) : (⟨g, off, none⟩ : Addr).add n = ⟨g, off + n, none⟩ := by unfold Addr.add; split <;> simp_all

theorem lt_of_cell {a : Addr} {v : Value} (h : W.cell? a = some v) : a.block < W.heap.size := World.block_lt_of_cell? W a h

/-- A slice of whatever elements, as it was read: nil, or a row of cells, each element with its own reading. -/
theorem open_rows {t e : TypeId} {fuel sz : Nat} {cs : List Value} {x : DataW H × List MemPlace} (ht : P.underlying t = some (.slice e)) (hc : P.cellsOf e = sz) (hsz : 0 < sz)
    (h : DataW.trod enc P W base spare held fuel t cs = some x) :
    ∃ a len cap, cs = [.slice a len cap] ∧ len ≤ cap ∧ cap ≤ maxLen ∧ (len ≠ 0 → ∃ g off, a = some ⟨g, off, none⟩ ∧ g < W.heap.size ∧
      ∀ i, i < len → ∃ (cs' : List Value) (y : DataW H × List MemPlace) (n : Nat), cs'.length = sz ∧ (∀ c, c < sz → W.cell? ⟨g, off + (i * sz + c), none⟩ = cs'[c]?) ∧ DataW.trod enc P W base spare held n e cs' = some y) := by
  rcases Deep.open_slice ht h with ⟨rfl, -⟩ | ⟨a, len, cap, m, n, D, Pl, rfl, -, hl, hm, hmm, -, hx⟩
  · exact ⟨none, 0, 0, rfl, by simp, by simp [maxLen], fun h => absurd rfl h⟩
  · have hlm : len ≤ m := by rw [hmm]; split <;> omega
    refine ⟨some a, len, cap, rfl, hl, hm, fun h0 => ?_⟩
    rw [hc] at hx
    obtain ⟨cs0, h1, -⟩ := hx 0 (by omega)
    obtain ⟨-, hlen, hcell⟩ := World.cells?_some h1
    have hc0 := hcell 0 hsz
    have e0 : (a.add (0 * sz)) = a := by simp [Addr.add]
    rw [e0] at hc0
    cases hv : cs0[0]? with
    | none => rw [List.getElem?_eq_none_iff] at hv; omega
    | some v =>
      rw [hv] at hc0
      obtain ⟨g, off, rfl⟩ := plain_addr hc0 rfl
      refine ⟨g, off, rfl, by simpa [add_plain] using lt_of_cell hc0, fun i hi => ?_⟩
      obtain ⟨cs', h2, h3⟩ := hx i (by omega)
      obtain ⟨-, hlen', hcell'⟩ := World.cells?_some h2
      refine ⟨cs', _, n, hlen', fun c hcc => ?_, h3⟩
      have := hcell' c hcc
      rw [add_plain, add_plain] at this
      rw [← this, Nat.add_assoc]
end

end Go.Proofs.Ytlfkodlnhfdgjaa

namespace Go.Proofs.Ytlfkodlnhfdgjaa

/-- A byte that a name may have. -/
def okByte (c : Nat) : Bool := decide (33 ≤ c) && (decide (c ≤ 126) && (c != 47))

/-- A name? -/
def goodN (l : List Nat) : Bool := decide (1 ≤ l.length) && decide (l.length ≤ 7) && (l != [46]) && (l != [46, 46]) && l.all okByte

end Go.Proofs.Ytlfkodlnhfdgjaa

namespace Go.Proofs.Ytlfkodlnhfdgjaa

theorem getD_set_ne {l : List Int} {i j : Nat} (x : Int) (h : i ≠ j) : (l.set i x).getD j 0 = l.getD j 0 := by
  simp [List.getD_eq_getElem?_getD, List.getElem?_set_ne h]
end Go.Proofs.Ytlfkodlnhfdgjaa

namespace Go.Proofs.Ytlfkodlnhfdgjaa
open Go.RowKit

def u64s (l : List Int) : List Value := l.map (Value.int .u64)

theorem u64s_get {l : List Int} {j : Nat} (h : j < l.length) : (u64s l)[j]? = some (.int .u64 (l.getD j 0)) := by simp [u64s, h]

theorem u64s_len (l : List Int) : (u64s l).length = l.length := by simp [u64s]

theorem Reads.val {w : World} {v : Value} {g : Nat} {xs : List Value} (h : Reads w v g xs) : ∃ a cap, v = .slice a xs.length cap ∧ xs.length ≤ maxLen := by
  obtain ⟨a, cap, h1, h2, h3, h4⟩ := h
  exact ⟨a, cap, h1, Nat.le_trans h2 h3⟩

theorem Reads.anyG {w : World} {v : Value} {g : Nat} {xs : List Value} (h : Reads w v g xs) (hx : xs = []) (g' : Nat) : Reads w v g' xs := by
  obtain ⟨a, cap, h1, h2, h3, h4⟩ := h
  exact ⟨a, cap, h1, h2, h3, fun h => absurd hx h⟩

theorem ownsRow_block {w : World} {base T sz n : Nat} {v : Value} {xs : List Value} (h : w.ownsRow base T sz v n xs) : ∀ k, v.ownBlock = some k → base ≤ k := by
  obtain ⟨h0, h1⟩ := h
  intro k hk
  rcases h1 with ⟨rfl, rfl⟩ | ⟨g, cap, cur, rfl, hg, hh, h2, h3, h4, h5⟩
  · cases hk
  · cases hk; exact hg

theorem Keeps.grown {w wr w1 : World} {row : Option Nat} (hk : Keeps [] w wr) (hg : wr.grownBy w1 row) (hr : ∀ k, row = some k → w.heap.size ≤ k) : Keeps [] w w1 :=
  ⟨hg.os.trans hk.os, hg.tape.trans hk.tape, hg.output.trans hk.output, Nat.le_trans hk.size hg.size, fun k hk' hn =>
    (hg.block k (Nat.lt_of_lt_of_le hk' hk.size) fun e => by have := hr k e.symm; omega).trans (hk.block k hk' hn)⟩

end Go.Proofs.Ytlfkodlnhfdgjaa

namespace Go.Proofs.Ytlfkodlnhfdgjaa

end Go.Proofs.Ytlfkodlnhfdgjaa

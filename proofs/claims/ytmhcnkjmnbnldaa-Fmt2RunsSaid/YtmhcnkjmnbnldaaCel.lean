/-
  Slices of words (u64s) and of pairs (pcells, PReads) in memory, and what calls leave that make them. Nothing of the program is named here.
-/
import Derived.Test.YtmhcnkjmnbnldaaOpen
import Derived.Test.YtmhcnkjmnbnldaaPlM
import Derived.WalkLawsBesides
import Derived.Laws.AppendOwn
namespace Go.Proofs.Ytmhcnkjmnbnldaa
open Go.RowKit

def u64s (l : List Int) : List Value := l.map (Value.int .u64)

def bools (l : List Bool) : List Value := l.map Value.bool

theorem u64s_get {l : List Int} {j : Nat} (h : j < l.length) : (u64s l)[j]? = some (.int .u64 (l.getD j 0)) := by simp [u64s, h]

theorem bools_get {l : List Bool} {j : Nat} (h : j < l.length) : (bools l)[j]? = some (.bool (l.getD j false)) := by simp [bools, h]

theorem u64s_set (l : List Int) (j : Nat) (x : Int) : (u64s l).set j (.int .u64 x) = u64s (l.set j x) := by simp [u64s, List.map_set]

theorem bools_set (l : List Bool) (j : Nat) (x : Bool) : (bools l).set j (.bool x) = bools (l.set j x) := by simp [bools, List.map_set]

theorem u64s_len (l : List Int) : (u64s l).length = l.length := by simp [u64s]

theorem bools_len (l : List Bool) : (bools l).length = l.length := by simp [bools]

theorem u64s_one (l : List Int) : ∀ u ∈ u64s l, u.oneCell' = true := by
  intro u hu
  simp only [u64s, List.mem_map] at hu
  obtain ⟨x, -, rfl⟩ := hu
  rfl

theorem u64s_zero (n : Nat) : List.replicate n (Value.int .u64 0) = u64s (List.replicate n 0) := by simp [u64s]

theorem u64s_append (xs ys : List Int) : u64s (xs ++ ys) = u64s xs ++ u64s ys := by simp [u64s]

theorem u64s_cell {w : World} {v : Value} {g : Nat} {xs : List Int} (h : Reads w v g (u64s xs)) : ∃ a cap, v = .slice a xs.length cap ∧ xs.length ≤ cap ∧ cap ≤ maxLen ∧
    Hid (∀ k, k < xs.length → g < w.heap.size ∧ ∃ off, a = some ⟨g, off, none⟩ ∧ w.cell? ⟨g, off + k, none⟩ = some (.int .u64 (xs.getD k 0))) := by
  obtain ⟨a, cap, h0, h1, h2, h3⟩ := h
  rw [u64s_len] at *
  refine ⟨a, cap, h0, h1, h2, fun k hk => ?_⟩
  obtain ⟨hg, off, ho, hc⟩ := h3 (by intro e; have := congrArg List.length e; rw [u64s_len, List.length_nil] at this; omega)
  exact ⟨hg, off, ho, (hc k hk).trans (u64s_get hk)⟩

theorem Reads.val {w : World} {v : Value} {g : Nat} {xs : List Value} (h : Reads w v g xs) : ∃ a cap, v = .slice a xs.length cap ∧ xs.length ≤ maxLen := by
  obtain ⟨a, cap, h1, h2, h3, h4⟩ := h
  exact ⟨a, cap, h1, Nat.le_trans h2 h3⟩

theorem Reads.anyG {w : World} {v : Value} {g : Nat} {xs : List Value} (h : Reads w v g xs) (hx : xs = []) (g' : Nat) : Reads w v g' xs := by
  obtain ⟨a, cap, h1, h2, h3, h4⟩ := h
  exact ⟨a, cap, h1, h2, h3, fun h => absurd hx h⟩

/-- The slice value v reads as these pairs, which lie in block g (whatever g, if there are none). -/
def PReads (w : World) (v : Value) (g : Nat) (ps : List (Int × Int)) : Prop :=
  ∃ a cap, v = .slice a ps.length cap ∧ ps.length ≤ cap ∧ cap ≤ maxLen ∧ (ps.length ≠ 0 → g < w.heap.size ∧ ∃ off, a = some ⟨g, off, none⟩ ∧
    ∀ j, j < ps.length → w.cell? ⟨g, off + j * 2, none⟩ = some (.int .i64 (patN ps j)) ∧ w.cell? ⟨g, off + j * 2 + 1, none⟩ = some (.int .u64 (pwdN ps j)))

theorem PReads.keep {w w' : World} {v : Value} {g : Nat} {ps : List (Int × Int)} (h : PReads w v g ps) {l : List Nat} (hk : Keeps l w w') (hg : ps.length ≠ 0 → g ∉ l) : PReads w' v g ps := by
  obtain ⟨a, cap, h1, h2, h3, h4⟩ := h
  refine ⟨a, cap, h1, h2, h3, fun hx => ?_⟩
  obtain ⟨hlt, off, h5, h6⟩ := h4 hx
  refine ⟨Nat.lt_of_lt_of_le hlt hk.size, off, h5, fun j hj => ?_⟩
  have hb := hk.block g hlt (hg hx)
  exact ⟨(World.cell?_of_block (w := w) (w' := w') (a := ⟨g, off + j * 2, none⟩) hb).trans (h6 j hj).1, (World.cell?_of_block (w := w) (w' := w') (a := ⟨g, off + j * 2 + 1, none⟩) hb).trans (h6 j hj).2⟩

theorem PReads.val {w : World} {v : Value} {g : Nat} {ps : List (Int × Int)} (h : PReads w v g ps) : ∃ a cap, v = .slice a ps.length cap ∧ ps.length ≤ cap ∧ cap ≤ maxLen := by
  obtain ⟨a, cap, h1, h2, h3, h4⟩ := h
  exact ⟨a, cap, h1, h2, h3⟩

theorem PReads.get {w : World} {a : Option Addr} {n cap : Nat} {g : Nat} {ps : List (Int × Int)} (h : PReads w (.slice a n cap) g ps) {j : Nat} (hj : j < ps.length) :
    g < w.heap.size ∧ ∃ off, a = some ⟨g, off, none⟩ ∧ w.cell? ⟨g, off + j * 2, none⟩ = some (.int .i64 (patN ps j)) ∧ w.cell? ⟨g, off + j * 2 + 1, none⟩ = some (.int .u64 (pwdN ps j)) := by
  obtain ⟨a', cap', h1, h2, h3, h4⟩ := h
  cases h1
  obtain ⟨h5, off, h6, h7⟩ := h4 (by omega)
  exact ⟨h5, off, h6, h7 j hj⟩

def pcells (ps : List (Int × Int)) : List Value := ps.flatMap fun p => [.int .i64 p.1, .int .u64 p.2]

theorem pcells_len (ps : List (Int × Int)) : (pcells ps).length = ps.length * 2 := by
  induction ps with
  | nil => rfl
  | cons p ps ih => simp [pcells] at ih ⊢; omega

theorem pcells_append (ps qs : List (Int × Int)) : pcells (ps ++ qs) = pcells ps ++ pcells qs := by simp [pcells]

theorem pcells_get (ps : List (Int × Int)) : ∀ k, k < ps.length → (pcells ps)[k * 2]? = some (.int .i64 (patN ps k)) ∧ (pcells ps)[k * 2 + 1]? = some (.int .u64 (pwdN ps k)) := by
  induction ps with
  | nil => intro k h; simp at h
  | cons p ps ih =>
    intro k h
    have hc : pcells (p :: ps) = .int .i64 p.1 :: .int .u64 p.2 :: pcells ps := rfl
    cases k with
    | zero => rw [hc]; exact ⟨rfl, rfl⟩
    | succ k =>
      have := ih k (by simpa using h)
      rw [hc, show (k + 1) * 2 = k * 2 + 1 + 1 by omega]
      simp only [List.getElem?_cons_succ]
      exact this

theorem pcells_one (ps : List (Int × Int)) : ∀ u ∈ pcells ps, u.oneCell' = true := by
  intro u hu
  simp only [pcells, List.mem_flatMap, List.mem_cons, List.not_mem_nil, or_false] at hu
  obtain ⟨p, -, rfl | rfl⟩ := hu <;> rfl

theorem Owns.preads {w : World} {v : Value} {g T : Nat} {ps : List (Int × Int)} (h : Owns w v g T 2 ps.length (pcells ps)) : PReads w v g ps := by
  obtain ⟨a, cap, hv, h1, h2⟩ := h.val
  refine ⟨a, cap, hv, h1, h2, fun h0 => ?_⟩
  obtain ⟨hg, ⟨cap', hv', -, -⟩, hc, -⟩ := h.cell h0
  rw [hv] at hv'
  cases hv'
  refine ⟨hg, 0, rfl, fun j hj => ?_⟩
  rw [Nat.zero_add, hc (j * 2) (by omega), hc (j * 2 + 1) (by omega)]
  exact pcells_get ps j hj

/-- What a call leaves that makes words. -/
def MadeWords (w : World) (ws : List Int) (e : Ending) (w' : World) : Prop :=
  ∃ v g, e = .returned v ∧ Reads w' v g (u64s ws) ∧ w.heap.size ≤ g ∧ Keeps [] w w'

theorem new_cells (w : World) (cs : List Value) (T m : Nat) (hm : m = w.heap.size) : ∀ j u, cs[j]? = some u → (w.alloc (.cells cs.toArray T)).cell? ((⟨m, 0, none⟩ : Addr).add j) = some u := by
  intro j u hu
  subst hm
  rw [add_plain, (Blk.new w cs.toArray T).cell, Nat.zero_add]
  simpa using hu

def MadePairs (w : World) (ps : List (Int × Int)) (e : Ending) (w' : World) : Prop :=
  ∃ v g, e = .returned v ∧ PReads w' v g ps ∧ w.heap.size ≤ g ∧ Keeps [] w w'

theorem made_pcells (n : Nat) : (madeCells #[Value.int .i64 0, Value.int .u64 0] (n * 2)).toList = pcells (List.replicate n (0, 0)) := by
  apply List.ext_getElem?
  intro j
  simp only [madeCells, Array.toList_map, Array.toList_range, List.getElem?_map]
  by_cases hj : j < n * 2
  · rw [List.getElem?_range hj]
    have hp := pcells_get (List.replicate n ((0 : Int), (0 : Int))) (j / 2) (by simp; omega)
    have e0 : patN (List.replicate n ((0 : Int), (0 : Int))) (j / 2) = 0 := by
      simp [patN, List.getD_eq_getElem?_getD, List.getElem?_replicate]; split <;> rfl
    have e1 : pwdN (List.replicate n ((0 : Int), (0 : Int))) (j / 2) = 0 := by
      simp [pwdN, List.getD_eq_getElem?_getD, List.getElem?_replicate]; split <;> rfl
    rw [e0, e1] at hp
    rcases (show j % 2 = 0 ∨ j % 2 = 1 by omega) with h | h
    · rw [show j / 2 * 2 = j by omega] at hp
      rw [hp.1]
      simp [h]
    · rw [show j / 2 * 2 + 1 = j by omega] at hp
      rw [hp.2]
      simp [h]
  · rw [List.getElem?_eq_none (by simpa using hj), List.getElem?_eq_none (by rw [pcells_len, List.length_replicate]; omega)]; rfl

theorem pcells_set (l : List (Int × Int)) (a x : Int) : ∀ k, ((pcells l).set (k * 2) (.int .i64 a)).set (k * 2 + 1) (.int .u64 x) = pcells (l.set k (a, x)) := by
  induction l with
  | nil => intro k; rfl
  | cons p l ih =>
    intro k
    have hc : ∀ (p : Int × Int) l, pcells (p :: l) = .int .i64 p.1 :: .int .u64 p.2 :: pcells l := fun _ _ => rfl
    cases k with
    | zero => rfl
    | succ k => rw [hc, List.set_cons_succ, hc, ← ih k, show (k + 1) * 2 = k * 2 + 1 + 1 by omega]; rfl

/-- The first k are laid, the others are noughts. -/
def fillTo {α : Type} (z : α) (l : List α) (k : Nat) : List α := l.take k ++ List.replicate (l.length - k) z

theorem fillTo_zero {α : Type} (z : α) (l : List α) : fillTo z l 0 = List.replicate l.length z := by simp [fillTo]

theorem fillTo_all {α : Type} (z : α) (l : List α) : fillTo z l l.length = l := by simp [fillTo]

theorem fillTo_len {α : Type} (z : α) (l : List α) (k : Nat) (h : k ≤ l.length) : (fillTo z l k).length = l.length := by simp [fillTo]; omega

theorem fillTo_succ {α : Type} (z : α) (l : List α) (k : Nat) (h : k < l.length) (x : α) (hx : l[k] = x) : (fillTo z l k).set k x = fillTo z l (k + 1) := by
  subst hx
  unfold fillTo
  rw [List.take_succ_eq_append_getElem h, show l.length - k = (l.length - (k + 1)) + 1 by omega, List.replicate_succ, List.append_assoc]
  rw [List.set_append_right _ _ (by simp; omega)]
  congr 1
  rw [List.length_take, Nat.min_eq_left (by omega), Nat.sub_self]
  rfl

/-- Two cells of an owned row of pairs are written. -/
theorem Owns.pair {w : World} {v : Value} {g T n : Nat} {l : List (Int × Int)} (h : Owns w v g T 2 n (pcells l)) (k : Nat) (a x : Int) :
    Owns ((w.setCell ⟨g, k * 2, none⟩ (.int .i64 a)).setCell ⟨g, k * 2 + 1, none⟩ (.int .u64 x)) v g T 2 n (pcells (l.set k (a, x))) := by
  have := (h.set (k * 2) (.int .i64 a)).set (k * 2 + 1) (.int .u64 x)
  rw [pcells_set] at this
  exact this

theorem MadePairs.mk {w w' : World} {v : Value} {g T n : Nat} {ps : List (Int × Int)} (h : Owns w' v g T 2 n (pcells ps)) (hn : n = ps.length) (hg : w.heap.size ≤ g) (hk : Keeps [] w w') : MadePairs w ps (.returned v) w' := by
  subst hn
  exact ⟨v, g, rfl, h.preads, hg, hk⟩

/-- Places of a memory. -/
def inP (ps : List (Int × Int)) (n : Nat) : Prop := ∀ p ∈ ps, 0 ≤ p.1 ∧ p.1 < n

theorem inP_get {ps : List (Int × Int)} {n : Nat} (h : inP ps n) {k : Nat} (hk : k < ps.length) : 0 ≤ patN ps k ∧ patN ps k < n := h _ (patN_mem ps k hk)

theorem keeps_new {w w1 w2 : World} {l : List Nat} (h : Keeps [] w w1) (k : Keeps l w1 w2) (hl : ∀ x, x ∈ l → w.heap.size ≤ x) : Keeps [] w w2 := h.trans k fun x hx => .inr (hl x hx)

theorem ownsRow_block {w : World} {base T sz n : Nat} {v : Value} {xs : List Value} (h : w.ownsRow base T sz v n xs) : ∀ k, v.ownBlock = some k → base ≤ k := by
  obtain ⟨h0, h1⟩ := h
  intro k hk
  rcases h1 with ⟨rfl, rfl⟩ | ⟨g, cap, cur, rfl, hg, hh, h2, h3, h4, h5⟩
  · cases hk
  · cases hk; exact hg

theorem Keeps.grown {w wr w1 : World} {row : Option Nat} (hk : Keeps [] w wr) (hg : wr.grownBy w1 row) (hr : ∀ k, row = some k → w.heap.size ≤ k) : Keeps [] w w1 :=
  ⟨hg.os.trans hk.os, hg.tape.trans hk.tape, hg.output.trans hk.output, Nat.le_trans hk.size hg.size, fun k hk' hn =>
    (hg.block k (Nat.lt_of_lt_of_le hk' hk.size) fun e => by have := hr k e.symm; omega).trans (hk.block k hk' hn)⟩

theorem u64s_getO {w : World} {v : Value} {g T n : Nat} {xs : List Int} (h : Owns w v g T 1 n (u64s xs)) (hn : xs.length = n) {j : Nat} (hj : j < n) :
    (∃ cap, v = .slice (some ⟨g, 0, none⟩) n cap ∧ n ≤ cap ∧ cap ≤ maxLen) ∧ w.cell? ⟨g, j, none⟩ = some (.int .u64 (xs.getD j 0)) ∧ w.frozen? ⟨g, j, none⟩ = false := by
  obtain ⟨-, h1, h2, h3⟩ := h.cell (by omega)
  exact ⟨h1, (h2 j (by omega)).trans (u64s_get (by omega)), h3 j⟩

theorem Owns.set64 {w : World} {v : Value} {g T n : Nat} {xs : List Int} (h : Owns w v g T 1 n (u64s xs)) (j : Nat) (x : Int) : Owns (w.setCell ⟨g, j, none⟩ (.int .u64 x)) v g T 1 n (u64s (xs.set j x)) := by
  have := h.set j (.int .u64 x)
  rwa [u64s_set] at this

theorem Owns.preads' {w : World} {v : Value} {g T n : Nat} {ps : List (Int × Int)} (h : Owns w v g T 2 n (pcells ps)) (hn : n = ps.length) : PReads w v g ps := by
  subst hn
  exact h.preads

theorem PReads.apart {w : World} {v : Value} {g : Nat} {ps : List (Int × Int)} (h : PReads w v g ps) {l : List Nat} (hl : ∀ x, x ∈ l → w.heap.size ≤ x) : ps.length ≠ 0 → g ∉ l := fun h0 hm => by
  obtain ⟨a, cap, h1, h2, h3, h4⟩ := h
  have := (h4 h0).1
  have := hl g hm
  omega

theorem PReads.nil (w : World) (g : Nat) : PReads w (.slice none 0 0) g [] := ⟨none, 0, rfl, by simp, by simp [maxLen], fun h => absurd rfl h⟩

theorem ownsRow_keep {w w' : World} {base T sz n : Nat} {v : Value} {xs : List Value} (h : w.ownsRow base T sz v n xs) {l : List Nat} (hk : Keeps l w w') (hn : ∀ k, v.ownBlock = some k → k ∉ l) : w'.ownsRow base T sz v n xs := by
  obtain ⟨h0, h1⟩ := h
  refine ⟨h0, ?_⟩
  rcases h1 with ⟨rfl, rfl⟩ | ⟨g, cap, cur, rfl, hg, hh, h2, h3, h4, h5⟩
  · exact .inl ⟨rfl, rfl⟩
  · refine .inr ⟨g, cap, cur, rfl, hg, ?_, h2, h3, h4, h5⟩
    rw [← hh]
    exact hk.block g (Array.getElem?_eq_some_iff.1 hh).1 (hn g rfl)

theorem ownsRow_val {w : World} {base T sz n : Nat} {v : Value} {xs : List Value} (h : w.ownsRow base T sz v n xs) : ∃ a cap, v = .slice a n cap ∧ n ≤ cap ∧ cap ≤ maxLen := by
  obtain ⟨g, ho, -⟩ := Owns.of_row h
  exact ho.val

end Go.Proofs.Ytmhcnkjmnbnldaa

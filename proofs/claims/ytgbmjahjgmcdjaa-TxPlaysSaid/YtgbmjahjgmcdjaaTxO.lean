/-
  Layer 4's reference: calls (imagoref04.Op) as they are read.
-/
import Derived.Test.YtgbmjahjgmcdjaaCelQ
import Derived.Test.YtgbmjahjgmcdjaaLaw
namespace Go.Proofs.Ytgbmjahjgmcdjaa
open Go.ChangeShapes Go.WideShapes Go.ChangeAt Go.RowKit

/-- A call: its kind, place and word. -/
structure TOp where
  kind : Int
  i : Int
  x : Int

def topCells (o : TOp) : List Value := [.int .u8 o.kind, .int .i64 o.i, .int .u64 o.x]

def TOpOk (o : TOp) : Prop := (0 ≤ o.kind ∧ o.kind ≤ 255) ∧ (-9223372036854775808 ≤ o.i ∧ o.i ≤ 9223372036854775807) ∧ 0 ≤ o.x ∧ o.x ≤ 18446744073709551615

/-- The slice value v reads as these calls. -/
structure TOps (W : World) (v : Value) (l : List TOp) : Prop where
  all : ∀ o ∈ l, TOpOk o
  at_ : ∃ a cap, v = .slice a l.length cap ∧ l.length ≤ cap ∧ cap ≤ maxLen ∧ (l ≠ [] → ∃ g off, a = some ⟨g, off, none⟩ ∧ g < W.heap.size ∧
    ∀ (j : Nat) (o : TOp), l[j]? = some o → ∀ c, c < 3 → W.cell? ⟨g, off + (j * 3 + c), none⟩ = (topCells o)[c]?)

section
variable {H : Type} {enc : TypeId × Value → H} {W : World} {base : Nat} {spare : Nat → Bool} {held : Bool}

theorem open_top {fuel : Nat} {cs : List Value} {x : DataW H × List MemPlace} (h : DataW.trod enc Try.prog W base spare held fuel 30 cs = some x) : ∃ o : TOp, cs = topCells o ∧ TOpOk o := by
  obtain ⟨xs, n, -, -, hl, hlen, hf⟩ := DataW.trod_struct Try.underlying30 h
  rw [show Try.prog.cellsOf 30 = 3 by kernel_rfl] at hl
  match cs, hl with
  | [c0, c1, c2], _ =>
    have f0 : DataW.trod enc Try.prog W base spare held n 5 (([c0, c1, c2].drop 0).take (Try.prog.cellsOf 5)) = xs[0]? := hf 0 _ rfl
    have f1 : DataW.trod enc Try.prog W base spare held n 3 (([c0, c1, c2].drop 1).take (Try.prog.cellsOf 3)) = xs[1]? := hf 1 _ rfl
    have f2 : DataW.trod enc Try.prog W base spare held n 28 (([c0, c1, c2].drop 2).take (Try.prog.cellsOf 28)) = xs[2]? := hf 2 _ rfl
    simp only [show Try.prog.cellsOf 5 = 1 by kernel_rfl, show Try.prog.cellsOf 3 = 1 by kernel_rfl, show Try.prog.cellsOf 28 = 1 by kernel_rfl,
      List.drop_zero, List.drop_succ_cons, List.take_succ_cons, List.take_zero] at f0 f1 f2
    match xs, hlen with
    | [y0, y1, y2], _ =>
      simp only [List.getElem?_cons_zero, List.getElem?_cons_succ] at f0 f1 f2
      obtain ⟨n0, e0, -, w0⟩ := DataW.trod_int Try.underlying5 f0
      obtain ⟨n1, e1, -, w1⟩ := DataW.trod_int Try.underlying3 f1
      obtain ⟨n2, e2, -, w2⟩ := DataW.trod_int Try.underlying28 f2
      simp only [List.cons.injEq, and_true] at e0 e1 e2
      subst e0 e1 e2
      exact ⟨⟨n0, n1, n2⟩, rfl, bounds_u8 w0, bounds_i64 w1, bounds_u64 w2⟩

theorem open_tops {fuel : Nat} {cs : List Value} {x : DataW H × List MemPlace} (h : DataW.trod enc Try.prog W base spare held fuel 23 cs = some x) : ∃ v l, cs = [v] ∧ TOps W v l := by
  obtain ⟨a, len, cap, rfl, h1, h2, h3⟩ := open_rows (sz := 3) Try.underlying23 (by kernel_rfl) (by omega) h
  by_cases h0 : len = 0
  · subst h0
    exact ⟨_, [], rfl, by simp, a, cap, rfl, by simp, h2, fun h => absurd rfl h⟩
  · obtain ⟨g, off, rfl, hg, hx⟩ := h3 h0
    have hex : ∀ i, i < len → ∃ o : TOp, TOpOk o ∧ ∀ c, c < 3 → W.cell? ⟨g, off + (i * 3 + c), none⟩ = (topCells o)[c]? := fun i hi => by
      obtain ⟨cs', y, n, hl, hc, ht⟩ := hx i hi
      obtain ⟨o, rfl, ho⟩ := open_top ht
      exact ⟨o, ho, hc⟩
    obtain ⟨f, hf⟩ : ∃ f : Nat → TOp, ∀ i, i < len → TOpOk (f i) ∧ ∀ c, c < 3 → W.cell? ⟨g, off + (i * 3 + c), none⟩ = (topCells (f i))[c]? :=
      ⟨fun i => if h : i < len then Classical.choose (hex i h) else ⟨0, 0, 0⟩, fun i hi => by simp only [dif_pos hi]; exact Classical.choose_spec (hex i hi)⟩
    refine ⟨_, (List.range len).map f, rfl, ?_, _, cap, by simp, by simpa using h1, h2, fun _ => ⟨g, off, rfl, hg, fun j o ho => ?_⟩⟩
    · intro o ho
      simp only [List.mem_map, List.mem_range] at ho
      obtain ⟨i, hi, rfl⟩ := ho
      exact (hf i hi).1
    · simp only [List.getElem?_map, Option.map_eq_some_iff] at ho
      obtain ⟨i, hi, rfl⟩ := ho
      have hj := (List.getElem?_eq_some_iff.1 hi)
      simp only [List.getElem_range, List.length_range] at hj
      obtain ⟨hj1, rfl⟩ := hj
      exact (hf j hj1).2
end

theorem TOps.keep {W W' : World} {v : Value} {l : List TOp} (h : TOps W v l) (hk : Keeps [] W W') : TOps W' v l := by
  obtain ⟨h0, a, cap, h1, h2, h3, h4⟩ := h
  refine ⟨h0, a, cap, h1, h2, h3, fun hl => ?_⟩
  obtain ⟨g, off, h5, h6, h7⟩ := h4 hl
  refine ⟨g, off, h5, Nat.lt_of_lt_of_le h6 hk.size, fun j o ho c hc => ?_⟩
  exact (World.cell?_of_block (w := W) (w' := W') (a := ⟨g, off + (j * 3 + c), none⟩) (hk.block g h6 (by simp))).trans (h7 j o ho c hc)

theorem TOps.val {W : World} {v : Value} {l : List TOp} (h : TOps W v l) : ∃ a cap, v = .slice a l.length cap ∧ l.length ≤ maxLen := by
  obtain ⟨h0, a, cap, rfl, h2, h3, h4⟩ := h
  exact ⟨a, cap, rfl, Nat.le_trans h2 h3⟩

/-- The j-th call: its cells, loaded. -/
theorem TOps.get {W : World} {a : Option Addr} {n cap : Nat} {l : List TOp} (h : TOps W (.slice a n cap) l) {j : Nat} (hj : j < l.length) :
    ∃ g off, a = some ⟨g, off, none⟩ ∧ TOpOk l[j] ∧ (loadVar 30 ⟨g, off + j * 3, none⟩).run Try.prog W = .ok (.agg (topCells l[j]).toArray) W := by
  obtain ⟨h0, a', cap', hv, h2, h3, h4⟩ := h
  cases hv
  obtain ⟨g, off, rfl, h6, h7⟩ := h4 (by intro e; rw [e] at hj; simp at hj)
  refine ⟨g, off, rfl, h0 _ (List.getElem_mem hj), run_loadVar_cells g (off + j * 3) (topCells l[j]) Try.underlying30 rfl (by kernel_rfl) fun c hc => ?_⟩
  have hc3 : c < 3 := by simpa [topCells] using hc
  rw [Nat.add_assoc]
  exact h7 j l[j] (List.getElem?_eq_getElem hj) c hc3

end Go.Proofs.Ytgbmjahjgmcdjaa

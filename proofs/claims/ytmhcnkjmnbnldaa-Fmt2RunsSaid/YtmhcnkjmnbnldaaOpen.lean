/-
  What the reading of arguments says of cells: slices of integers, slices of whatever.
-/
import Derived.Test.YtmhcnkjmnbnldaaHeap
import Derived.ProofKit
import Derived.OpenShut
import Derived.Deep.Slices
namespace Go.Proofs.Ytmhcnkjmnbnldaa
open Go.ChangeShapes Go.WideShapes Go.ChangeAt Go.RowKit

section
variable {H : Type} {enc : TypeId × Value → H} {P : Program} {W : World} {base : Nat} {spare : Nat → Bool} {held : Bool}

/-- The address of a row that has a cell is plain. -/
theorem plain_addr {a : Addr} {n : Nat} {v : Value} (h : W.cell? (a.add n) = some v) (hz : n = 0) : ∃ g off, a = ⟨g, off, none⟩ := by
  subst hz
  have : a.add 0 = a := by simp [Addr.add]
  rw [this] at h
  obtain ⟨g, off, spot⟩ := a
  have := World.cell?_spot h
  simp at this
  subst this
  exact ⟨g, off, rfl⟩

theorem add_plain (g off n : Nat) : (⟨g, off, none⟩ : Addr).add n = ⟨g, off + n, none⟩ := by unfold Addr.add; split <;> simp_all

theorem lt_of_cell {a : Addr} {v : Value} (h : W.cell? a = some v) : a.block < W.heap.size := World.block_lt_of_cell? W a h

/-- A slice of integers of one kind, as it was read: it 'Reads' as these numbers, each of which fits. -/
theorem open_reads {t e : TypeId} {k : IntKind} {fuel : Nat} {cs : List Value} {x : DataW H × List MemPlace} (ht : P.underlying t = some (.slice e)) (he : P.underlying e = some (.int k)) (hc : P.cellsOf e = 1)
    (h : DataW.trod enc P W base spare held fuel t cs = some x) : ∃ (v : Value) (g : Nat) (zs : List Int), cs = [v] ∧ Reads W v g (zs.map (Value.int k)) ∧ ∀ n ∈ zs, (Lit.int k n).wf = true := by
  rcases open_ints ht he hc h with ⟨rfl, -⟩ | ⟨a, len, cap, zs, rfl, -, hl, hm, hz, -, hcell, hwz⟩
  · exact ⟨_, 0, [], rfl, ⟨none, 0, rfl, by simp, by simp [maxLen], fun h => absurd rfl h⟩, by simp⟩
  · have hlz : len ≤ zs.length := by rw [hz]; split <;> omega
    have e1 : ((zs.take len).map (Value.int k)).length = len := by simp; omega
    by_cases h0 : len = 0
    · subst h0
      exact ⟨_, 0, [], rfl, ⟨some a, cap, rfl, by simp, hm, fun h => absurd rfl h⟩, by simp⟩
    · have hc0 := hcell 0 (by omega)
      obtain ⟨g, off, rfl⟩ := plain_addr hc0 rfl
      refine ⟨_, g, zs.take len, rfl, ⟨some ⟨g, off, none⟩, cap, by rw [e1], by rw [e1]; exact hl, hm, fun _ => ⟨by simpa [add_plain] using lt_of_cell hc0, off, rfl, fun j hj => ?_⟩⟩, fun n hn => hwz n (List.mem_of_mem_take hn)⟩
      rw [e1] at hj
      have := hcell j (by omega)
      rw [add_plain] at this
      rw [this]
      simp [hj, show j < zs.length by omega]

/-- A slice of whatever elements, as it was read: nil, or a row of cells, each element with its own reading. -/
theorem open_rows {t e : TypeId} {fuel sz : Nat} {cs : List Value} {x : DataW H × List MemPlace} (ht : P.underlying t = some (.slice e)) (hc : P.cellsOf e = sz) (hsz : 0 < sz)
    (h : DataW.trod enc P W base spare held fuel t cs = some x) :
    ∃ a len cap, cs = [.slice a len cap] ∧ len ≤ cap ∧ cap ≤ maxLen ∧ (len ≠ 0 → ∃ g off, a = some ⟨g, off, none⟩ ∧ g < W.heap.size ∧
      ∀ i, i < len → ∃ (cs' : List Value) (y : DataW H × List MemPlace) (n : Nat), cs'.length = sz ∧ (∀ c, c < sz → W.cell? ⟨g, off + (i * sz + c), none⟩ = cs'[c]?) ∧ DataW.trod enc P W base spare held n e cs' = some y) := by
  rcases Deep.open_slice ht h with ⟨rfl, -⟩ | ⟨a, len, cap, m, n, D, Pl, rfl, -, hl, hm, hmm, -, hx⟩
  · exact ⟨none, 0, 0, rfl, by simp, by simp [maxLen], fun h => absurd rfl h⟩
  · have hlm : len ≤ m := by rw [hmm]; split <;> omega
    refine ⟨some a, len, cap, rfl, hl, hm, fun h0 => ?_⟩
    rw [hc] at hx
    obtain ⟨cs0, h1, -⟩ := hx 0 (by omega)
    obtain ⟨-, hlen, hcell⟩ := World.cells?_some h1
    have hc0 := hcell 0 hsz
    have e0 : (a.add (0 * sz)) = a := by simp [Addr.add]
    rw [e0] at hc0
    cases hv : cs0[0]? with
    | none => rw [List.getElem?_eq_none_iff] at hv; omega
    | some v =>
      rw [hv] at hc0
      obtain ⟨g, off, rfl⟩ := plain_addr hc0 rfl
      refine ⟨g, off, rfl, by simpa [add_plain] using lt_of_cell hc0, fun i hi => ?_⟩
      obtain ⟨cs', h2, h3⟩ := hx i (by omega)
      obtain ⟨-, hlen', hcell'⟩ := World.cells?_some h2
      refine ⟨cs', _, n, hlen', fun c hcc => ?_, h3⟩
      have := hcell' c hcc
      rw [add_plain, add_plain] at this
      rw [← this, Nat.add_assoc]
end

end Go.Proofs.Ytmhcnkjmnbnldaa

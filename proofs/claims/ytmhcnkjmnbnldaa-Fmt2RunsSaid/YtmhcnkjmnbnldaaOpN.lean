/-
  An array of thirteen numbers as an argument is read.
-/
import Derived.Test.YtmhcnkjmnbnldaaOpen
import Derived.Test.YtmhcnkjmnbnldaaArM
import Derived.Test.YtmhcnkjmnbnldaaCelU
namespace Go.Proofs.Ytmhcnkjmnbnldaa
open Go.ChangeShapes Go.WideShapes Go.ChangeAt Go.RowKit

section
variable {H : Type} {enc : TypeId × Value → H} {W : World} {base : Nat} {spare : Nat → Bool} {held : Bool}

/-- The number in a cell. -/
def intV : Option Value → Int
  | some (.int _ z) => z
  | _ => 0

set_option maxRecDepth 100000 in
theorem open_n13 {fuel : Nat} {cs : List Value} {x : DataW H × List MemPlace} (h : DataW.trod enc Try.prog W base spare held fuel 22 cs = some x) : ∃ l : List Int, cs = zs l ∧ l.length = 13 := by
  obtain ⟨xs, m, -, -, hl, hlen, hf⟩ := DataW.trod_array Try.underlying22 h
  rw [show Try.prog.cellsOf 22 = 13 by kernel_rfl] at hl
  have hone : ∀ i, i < 13 → ∃ z : Int, cs[i]? = some (.int .i64 z) := fun i hi => by
    have h1 := hf i hi
    rw [show Try.prog.cellsOf 3 = 1 by kernel_rfl, Nat.mul_one, List.getElem?_eq_getElem (by omega : i < xs.length)] at h1
    obtain ⟨z, e, -, -⟩ := DataW.trod_int Try.underlying3 h1
    refine ⟨z, ?_⟩
    have h2 := congrArg (fun l => l[0]?) e
    simpa using h2
  refine ⟨(List.range 13).map fun i => intV cs[i]?, ?_, by simp⟩
  apply List.ext_getElem?
  intro i
  by_cases hi : i < 13
  · obtain ⟨z, hz⟩ := hone i hi
    have h2 : (zs ((List.range 13).map fun i => intV cs[i]?))[i]? = some (.int .i64 (intV cs[i]?)) := by simp [zs, hi]
    rw [h2, hz]
    rfl
  · rw [List.getElem?_eq_none (by omega), List.getElem?_eq_none (by simp [zs]; omega)]


theorem open_n13' {b0 : Nat} {v : Value} {d : DataW H} {p : List MemPlace} (hval : Value.okWide Try.prog W .any b0 22 v)
    (h : DataW.Trod enc Try.prog W base spare held 22 v d p) : ∃ l : List Int, v = .agg (zs l).toArray ∧ l.length = 13 := by
  obtain ⟨cs, rfl, hsz, _⟩ : ∃ cs, v = .agg cs ∧ cs.size = Try.prog.cellsOf 22 ∧ Row.okWide Try.prog W .any b0 22 cs := by
    simpa [Value.okWide, Try.underlying22] using hval
  obtain ⟨fuel, hf⟩ := h
  obtain ⟨l, e, hl⟩ := open_n13 hf
  refine ⟨l, ?_, hl⟩
  obtain ⟨c⟩ := cs
  simp [Value.cells] at e
  rw [e]

end

end Go.Proofs.Ytmhcnkjmnbnldaa

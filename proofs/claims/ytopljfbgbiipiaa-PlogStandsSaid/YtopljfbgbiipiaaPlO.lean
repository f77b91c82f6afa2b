/-
  Slices of pairs (api.Pair), as arguments are read.
-/
import Derived.Test.YtopljfbgbiipiaaPlA
import Derived.Test.YtopljfbgbiipiaaOpen
namespace Go.Proofs.Ytopljfbgbiipiaa
open Go.ChangeShapes Go.WideShapes Go.ChangeAt Go.RowKit

section
variable {H : Type} {enc : TypeId × Value → H} {W : World} {base : Nat} {spare : Nat → Bool} {held : Bool}

theorem open_pair {fuel : Nat} {cs : List Value} {x : DataW H × List MemPlace} (h : DataW.trod enc Try.prog W base spare held fuel 43 cs = some x) :
    ∃ a y : Int, cs = [.int .i64 a, .int .u64 y] ∧ (-9223372036854775808 ≤ a ∧ a ≤ 9223372036854775807) ∧ 0 ≤ y ∧ y ≤ 18446744073709551615 := by
  obtain ⟨xs, n, -, -, hl, hlen, hf⟩ := DataW.trod_struct Try.underlying43 h
  rw [show Try.prog.cellsOf 43 = 2 by kernel_rfl] at hl
  match cs, hl with
  | [c0, c1], _ =>
    have f0 : DataW.trod enc Try.prog W base spare held n 3 (([c0, c1].drop 0).take (Try.prog.cellsOf 3)) = xs[0]? := hf 0 _ rfl
    have f1 : DataW.trod enc Try.prog W base spare held n 40 (([c0, c1].drop 1).take (Try.prog.cellsOf 40)) = xs[1]? := hf 1 _ rfl
    simp only [show Try.prog.cellsOf 3 = 1 by kernel_rfl, show Try.prog.cellsOf 40 = 1 by kernel_rfl, List.drop_zero, List.drop_succ_cons, List.take_succ_cons, List.take_zero] at f0 f1
    match xs, hlen with
    | [y0, y1], _ =>
      simp only [List.getElem?_cons_zero, List.getElem?_cons_succ] at f0 f1
      obtain ⟨n0, e0, -, w0⟩ := DataW.trod_int Try.underlying3 f0
      obtain ⟨n1, e1, -, w1⟩ := DataW.trod_int Try.underlying40 f1
      simp only [List.cons.injEq, and_true] at e0 e1
      subst e0 e1
      exact ⟨n0, n1, rfl, bounds_i64 w0, bounds_u64 w1⟩

theorem open_pairs {fuel : Nat} {cs : List Value} {x : DataW H × List MemPlace} (h : DataW.trod enc Try.prog W base spare held fuel 22 cs = some x) :
    ∃ v g ps, cs = [v] ∧ PReads W v g ps ∧ okP ps := by
  obtain ⟨a, len, cap, rfl, h1, h2, h3⟩ := open_rows (sz := 2) Try.underlying22 (by kernel_rfl) (by omega) h
  by_cases h0 : len = 0
  · subst h0
    exact ⟨_, 0, [], rfl, ⟨a, cap, rfl, by simp, h2, fun h => absurd rfl h⟩, by intro p hp; simp at hp⟩
  · obtain ⟨g, off, rfl, hg, hx⟩ := h3 h0
    have hex : ∀ i, i < len → ∃ p : Int × Int, ((-9223372036854775808 ≤ p.1 ∧ p.1 ≤ 9223372036854775807) ∧ 0 ≤ p.2 ∧ p.2 ≤ 18446744073709551615) ∧
        W.cell? ⟨g, off + i * 2, none⟩ = some (.int .i64 p.1) ∧ W.cell? ⟨g, off + i * 2 + 1, none⟩ = some (.int .u64 p.2) := fun i hi => by
      obtain ⟨cs', y, n, hl, hc, ht⟩ := hx i hi
      obtain ⟨q, z, rfl, hq, hz⟩ := open_pair ht
      exact ⟨(q, z), ⟨hq, hz⟩, hc 0 (by omega), hc 1 (by omega)⟩
    obtain ⟨f, hf⟩ : ∃ f : Nat → Int × Int, ∀ i, i < len → ((-9223372036854775808 ≤ (f i).1 ∧ (f i).1 ≤ 9223372036854775807) ∧ 0 ≤ (f i).2 ∧ (f i).2 ≤ 18446744073709551615) ∧
        W.cell? ⟨g, off + i * 2, none⟩ = some (.int .i64 (f i).1) ∧ W.cell? ⟨g, off + i * 2 + 1, none⟩ = some (.int .u64 (f i).2) :=
      ⟨fun i => if h : i < len then Classical.choose (hex i h) else (0, 0), fun i hi => by simp only [dif_pos hi]; exact Classical.choose_spec (hex i hi)⟩
    refine ⟨_, g, (List.range len).map f, rfl, ⟨_, cap, by simp, by simpa using h1, h2, fun _ => ⟨hg, off, rfl, fun j hj => ?_⟩⟩, ?_⟩
    · have hj' : j < len := by simpa using hj
      have e1 : patN ((List.range len).map f) j = (f j).1 := by simp [patN, List.getD_eq_getElem?_getD, hj']
      have e2 : pwdN ((List.range len).map f) j = (f j).2 := by simp [pwdN, List.getD_eq_getElem?_getD, hj']
      rw [e1, e2]
      exact (hf j hj').2
    · intro p hp
      simp only [List.mem_map, List.mem_range] at hp
      obtain ⟨i, hi, rfl⟩ := hp
      exact (hf i hi).1
end

end Go.Proofs.Ytopljfbgbiipiaa

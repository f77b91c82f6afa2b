/-
  math/bits' table, out of the row's condition; an array of four words, as an argument.
-/
import Derived.Test.YtpndogcdmoeemaaDoorPaC
import Derived.Test.YtpndogcdmoeemaaDoorPaG
import Derived.Test.YtpndogcdmoeemaaDoorRows
import Derived.ProofKit
import Derived.LaidMore
import Derived.OpenShut
import Derived.Stop.Joined
import Derived.Laws.IdiomArrays
namespace Go.Proofs.YtpndogcdmoeemaaDoor
open Go.ChangeShapes Go.WideShapes Go.ChangeAt Go.WideMaps Go.WideElems Go.RowKit

theorem Tryd.gTab : Tryd.prog.globalNamed "math/bits.deBruijn64tab" = some 0 := by kernel_rfl
theorem Tryd.tTab : (Tryd.prog.globals[0]?).map (·.type) = some 59 := by kernel_rfl
theorem Tryd.cells_u8 : Tryd.prog.cellsOf 5 = 1 := by kernel_rfl
theorem Tryd.cells_u64 : Tryd.prog.cellsOf 22 = 1 := by kernel_rfl
theorem Tryd.cells_w4 : Tryd.prog.cellsOf 23 = 4 := by kernel_rfl

theorem tabList {H : Type} : Rows.laid_math_bits_deBruijn64tab (H := H) = .agg (Lib.deBruijn64tab.map fun n : Nat => .lit (.int .u8 (n : Int))) := rfl

/-- What the condition gives the walks. -/
theorem tab_of_laid {W : World} (h : laidMetH Tryd.prog [("math/bits.deBruijn64tab", Rows.laid_math_bits_deBruijn64tab)] W) : TabAt W := by
  rw [MakeChecks.laidMetH_plain _ _ _ (by kernel_rfl)] at h
  obtain ⟨ps, ⟨g0, t0, cs0, f0, p0, q0, hg0, ht0, hv0, hd0, _, _⟩, _, _⟩ := h
  obtain rfl := Option.some.inj (Tryd.gTab.symm.trans hg0)
  obtain rfl := Option.some.inj (Tryd.tTab.symm.trans ht0)
  obtain ⟨xs, m, rfl, hx, hlen, hn, hel⟩ := DataW.trod_array Tryd.underlying59 hd0
  rw [tabList] at hx
  simp only [Prod.mk.injEq, DataW.agg.injEq] at hx
  intro j hj
  have hj' := hel j hj
  rw [Tryd.cells_u8, Nat.mul_one] at hj'
  cases hxj : xs[j]? with
  | none => rw [List.getElem?_eq_none_iff] at hxj; omega
  | some y =>
    rw [hxj] at hj'
    have hlen' : ((cs0.toList.drop j).take 1).length = 1 := by
      rw [List.length_take, List.length_drop]
      have h64 : Tryd.prog.cellsOf 59 = 64 := by kernel_rfl
      rw [h64] at hlen
      omega
    obtain ⟨c, hc⟩ : ∃ c, (cs0.toList.drop j).take 1 = [c] := by
      match (cs0.toList.drop j).take 1, hlen' with
      | [c], _ => exact ⟨c, rfl⟩
    rw [hc] at hj'
    obtain ⟨k, e1, e2, _⟩ := DataW.trod_int Tryd.underlying5 hj'
    have hk : (xs.map (·.1))[j]? = some (.lit (.int .u8 k)) := by rw [List.getElem?_map, hxj, e2]; rfl
    rw [← hx.1, List.getElem?_map] at hk
    have hjl : j < Lib.deBruijn64tab.length := hj
    rw [List.getElem?_eq_getElem hjl] at hk
    have hk2 : k = ((Lib.deBruijn64tab.getD j 0 : Nat) : Int) := by
      have : ((Lib.deBruijn64tab[j] : Nat) : Int) = k := by simpa using hk
      rw [← this, List.getD_eq_getElem?_getD, List.getElem?_eq_getElem hjl]
      rfl
    have hcell := World.var?_cell hg0 hv0 j
    rw [hcell, ← hk2]
    have h3 : ((cs0.toList.drop j).take 1)[0]? = some c := by rw [hc]; rfl
    rw [List.getElem?_take, if_pos (by omega), List.getElem?_drop, Nat.add_zero, Array.getElem?_toList] at h3
    rw [h3]
    simp only [List.cons.injEq, and_true] at e1
    rw [e1]

/-- The start meets the condition. -/
theorem door_met (os : Os) (args : Array Value) : laidMetH Tryd.prog [("math/bits.deBruijn64tab", Rows.laid_math_bits_deBruijn64tab)] ((World.doorLaid Tryd.prog 400 os).forCall (fun _ _ => 0) ⟨#[], args, []⟩).memory :=
  laidMetH_of_parts3 (fuel := 8) (laidMet_of_run' 8 (by kernel_rfl) (by kernel_rfl)) (by kernel_rfl) (by kernel_rfl)

/-- An array of four words, as it was read. -/
theorem open_w4 {H : Type} {enc : TypeId × Value → H} {W : World} {base b0 : Nat} {spare : Nat → Bool} {held : Bool} {v : Value} {d : DataW H} {p : List MemPlace} (hval : Value.okWide Tryd.prog W .any b0 23 v)
    (h : DataW.Trod enc Tryd.prog W base spare held 23 v d p) : ∃ ws : List Nat, v = .agg (w4 ws) ∧ ∀ i, ws.getD i 0 < 18446744073709551616 := by
  obtain ⟨cs, rfl, hsz, _⟩ : ∃ cs, v = .agg cs ∧ cs.size = Tryd.prog.cellsOf 23 ∧ Row.okWide Tryd.prog W .any b0 23 cs := by
    simpa [Value.okWide, Tryd.underlying23] using hval
  rw [Tryd.cells_w4] at hsz
  obtain ⟨l⟩ := cs
  obtain ⟨c0, c1, c2, c3, rfl⟩ : ∃ c0 c1 c2 c3, l = [c0, c1, c2, c3] := by
    match l, hsz with
    | [a, b, c, d], _ => exact ⟨a, b, c, d, rfl⟩
  obtain ⟨fuel, hf⟩ := h
  obtain ⟨y0, y1, y2, y3, m, hx, hy0, hy1, hy2, hy3⟩ := trod_array4 Tryd.underlying23 Tryd.cells_u64 hf
  obtain ⟨x0, e0, -, w0⟩ := DataW.trod_int Tryd.underlying22 hy0
  obtain ⟨x1, e1, -, w1⟩ := DataW.trod_int Tryd.underlying22 hy1
  obtain ⟨x2, e2, -, w2⟩ := DataW.trod_int Tryd.underlying22 hy2
  obtain ⟨x3, e3, -, w3⟩ := DataW.trod_int Tryd.underlying22 hy3
  simp only [List.cons.injEq, and_true] at e0 e1 e2 e3
  subst e0 e1 e2 e3
  have b0 := bounds_u64 w0
  have b1 := bounds_u64 w1
  have b2 := bounds_u64 w2
  have b3 := bounds_u64 w3
  obtain ⟨n0, rfl⟩ := Int.eq_ofNat_of_zero_le b0.1
  obtain ⟨n1, rfl⟩ := Int.eq_ofNat_of_zero_le b1.1
  obtain ⟨n2, rfl⟩ := Int.eq_ofNat_of_zero_le b2.1
  obtain ⟨n3, rfl⟩ := Int.eq_ofNat_of_zero_le b3.1
  refine ⟨[n0, n1, n2, n3], rfl, fun i => ?_⟩
  rcases (show i = 0 ∨ i = 1 ∨ i = 2 ∨ i = 3 ∨ 4 ≤ i by omega) with rfl | rfl | rfl | rfl | hi
  · show n0 < _; omega
  · show n1 < _; omega
  · show n2 < _; omega
  · show n3 < _; omega
  · rw [List.getD_eq_getElem?_getD, List.getElem?_eq_none (by simpa using hi)]
    simp

end Go.Proofs.YtpndogcdmoeemaaDoor

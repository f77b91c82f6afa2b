/-
  math/bits' table, out of the row's condition; an array of four words, as an argument.
-/
import Derived.Test.YtlfkodlnhfdgjaaGreatDoorG01
import Derived.Test.YtlfkodlnhfdgjaaGreatDoorG08
import Derived.Test.YtlfkodlnhfdgjaaGreatDoorRows
import Derived.ProofKit
import Derived.LaidMore
import Derived.OpenShut
import Derived.Stop.Joined
import Derived.Laws.IdiomArrays
namespace Go.Proofs.YtlfkodlnhfdgjaaGreatDoor
open Go.ChangeShapes Go.WideShapes Go.ChangeAt Go.WideMaps Go.WideElems Go.RowKit

theorem Tryz.gTab : Tryz.prog.globalNamed "math/bits.deBruijn64tab" = some 1 := by kernel_rfl
theorem Tryz.tTab : (Tryz.prog.globals[1]?).map (·.type) = some 154 := by kernel_rfl
theorem Tryz.cells_u8 : Tryz.prog.cellsOf 5 = 1 := by kernel_rfl
theorem tabList {H : Type} : Rows.laid_math_bits_deBruijn64tab (H := H) = .agg (Lib.deBruijn64tab.map fun n : Nat => .lit (.int .u8 (n : Int))) := rfl

/-- What the condition gives the walks. -/
theorem tab_of_laid {W : World} (h : laidMetH Tryz.prog [("math/bits.deBruijn64tab", Rows.laid_math_bits_deBruijn64tab)] W) : TabAt W := by
  rw [MakeChecks.laidMetH_plain _ _ _ (by kernel_rfl)] at h
  obtain ⟨ps, ⟨g0, t0, cs0, f0, p0, q0, hg0, ht0, hv0, hd0, _, _⟩, _, _⟩ := h
  obtain rfl := Option.some.inj (Tryz.gTab.symm.trans hg0)
  obtain rfl := Option.some.inj (Tryz.tTab.symm.trans ht0)
  obtain ⟨xs, m, rfl, hx, hlen, hn, hel⟩ := DataW.trod_array Tryz.underlying154 hd0
  rw [tabList] at hx
  simp only [Prod.mk.injEq, DataW.agg.injEq] at hx
  intro j hj
  have hj' := hel j hj
  rw [Tryz.cells_u8, Nat.mul_one] at hj'
  cases hxj : xs[j]? with
  | none => rw [List.getElem?_eq_none_iff] at hxj; omega
  | some y =>
    rw [hxj] at hj'
    have hlen' : ((cs0.toList.drop j).take 1).length = 1 := by
      rw [List.length_take, List.length_drop]
      have h64 : Tryz.prog.cellsOf 154 = 64 := by kernel_rfl
      rw [h64] at hlen
      omega
    obtain ⟨c, hc⟩ : ∃ c, (cs0.toList.drop j).take 1 = [c] := by
      match (cs0.toList.drop j).take 1, hlen' with
      | [c], _ => exact ⟨c, rfl⟩
    rw [hc] at hj'
    obtain ⟨k, e1, e2, _⟩ := DataW.trod_int Tryz.underlying5 hj'
    have hk : (xs.map (·.1))[j]? = some (.lit (.int .u8 k)) := by rw [List.getElem?_map, hxj, e2]; rfl
    rw [← hx.1, List.getElem?_map] at hk
    have hjl : j < Lib.deBruijn64tab.length := hj
    rw [List.getElem?_eq_getElem hjl] at hk
    have hk2 : k = ((Lib.deBruijn64tab.getD j 0 : Nat) : Int) := by
      have : ((Lib.deBruijn64tab[j] : Nat) : Int) = k := by simpa using hk
      rw [← this, List.getD_eq_getElem?_getD, List.getElem?_eq_getElem hjl]
      rfl
    have hcell := World.var?_cell hg0 hv0 j
    rw [hcell, ← hk2]
    have h3 : ((cs0.toList.drop j).take 1)[0]? = some c := by rw [hc]; rfl
    rw [List.getElem?_take, if_pos (by omega), List.getElem?_drop, Nat.add_zero, Array.getElem?_toList] at h3
    rw [h3]
    simp only [List.cons.injEq, and_true] at e1
    rw [e1]

set_option maxRecDepth 100000 in
/-- The start meets the condition. -/
theorem door_met (os : Os) (args : Array Value) : laidMetH Tryz.prog [("math/bits.deBruijn64tab", Rows.laid_math_bits_deBruijn64tab)] ((World.doorLaid Tryz.prog 400 os).forCall (fun _ _ => 0) ⟨#[], args, []⟩).memory :=
  laidMetH_of_parts3 (fuel := 8) (laidMet_of_run' 8 (by kernel_rfl) (by kernel_rfl)) (by kernel_rfl) (by kernel_rfl)

end Go.Proofs.YtlfkodlnhfdgjaaGreatDoor

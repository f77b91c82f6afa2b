/-
  Layer 6 (fmt1): entriesOf. Layer 6 (fmt1): an inode's variable, its numbers or its entries stored. Layer 4 (tx): Inode.
-/
import Derived.Test.YtlfkodlnhfdgjaaG04
import Derived.Laws.AppendOwn
import Derived.Test.YtlfkodlnhfdgjaaG03
import Derived.Test.YtlfkodlnhfdgjaaG01
namespace Go.Proofs.Ytlfkodlnhfdgjaa
open Go.RowKit

/-- A part of an array of words, as a slice. -/
theorem Blk.reads {w : World} {b T o n c : Nat} {l : List Int} (h : Blk w b (u64s l).toArray T) (hn : o + n ≤ l.length) (hc : n ≤ c) (hm : c ≤ 1000) : Reads w (.slice (some ⟨b, o, none⟩) n c) b (u64s ((l.drop o).take n)) := by
  have hl : (u64s ((l.drop o).take n)).length = n := by rw [u64s_len, List.length_take, List.length_drop]; omega
  refine ⟨_, c, by rw [hl], by rw [hl]; exact hc, by unfold maxLen; omega, fun _ => ⟨h.lt, o, rfl, fun j hj => ?_⟩⟩
  rw [hl] at hj
  rw [h.cell, List.getElem?_toArray, u64s_get (by omega), u64s_get (by rw [List.length_take, List.length_drop]; omega)]
  simp [List.getD_eq_getElem?_getD, hj]

end Go.Proofs.Ytlfkodlnhfdgjaa

namespace Go.Proofs.Ytlfkodlnhfdgjaa
open Go.RowKit

end Go.Proofs.Ytlfkodlnhfdgjaa

namespace Go.Proofs.Ytlfkodlnhfdgjaa
open Go.RowKit

end Go.Proofs.Ytlfkodlnhfdgjaa

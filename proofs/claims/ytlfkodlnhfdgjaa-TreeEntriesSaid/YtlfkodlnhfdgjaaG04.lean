/-
  Package row: Entries. The words of entries. Layer 6 (fmt1): entryRow. Layer 6 (fmt1): rowAt, putRow. Layer 6 (fmt1), plain: the entries that words tell. Nothing of the program is named here. Layer 6 (fmt1): numbersOf. Layer 2 (pack): Name; the reference's Word and Byte. Package row: EntriesOf.
-/
import Derived.Test.YtlfkodlnhfdgjaaG03
import Derived.Test.YtlfkodlnhfdgjaaG01
import Derived.Laws.AppendOwn
import Derived.Deep.RegionWith
import Derived.IntWalk
import Derived.Test.YtlfkodlnhfdgjaaG02
namespace Go.Proofs.Ytlfkodlnhfdgjaa
open Go.RowKit

end Go.Proofs.Ytlfkodlnhfdgjaa

namespace Go.Proofs.Ytlfkodlnhfdgjaa
open Go.RowKit

theorem size_entry : (Try.prog.info? 27).map (·.size) = some 2 := by kernel_rfl

end Go.Proofs.Ytlfkodlnhfdgjaa

namespace Go.Proofs.Ytlfkodlnhfdgjaa
open Go.RowKit

/-- Eight words from a place on. -/
def rowL (X : List Int) (p : Nat) : List Int := (List.range 8).map fun j => X.getD (p + j) 0

end Go.Proofs.Ytlfkodlnhfdgjaa

namespace Go.Proofs.Ytlfkodlnhfdgjaa
open Go.RowKit

end Go.Proofs.Ytlfkodlnhfdgjaa

namespace Go.Proofs.Ytlfkodlnhfdgjaa
open Go.RowKit

/-- The numbers of all blocks, of an inode's row r, as the words X have them. -/
def numAll (X r : List Int) : List Int := (r.drop 2).take 5 ++ (if r.getD 7 0 = 0 then List.replicate 8 0 else rowL X (1080 + 8 * (r.getD 7 0).toNat))

/-- All are blocks' numbers, and a list has some. -/
def NumOk (X r : List Int) : Prop := r.getD 7 0 < 256 ∧ (∀ k, k < 13 → (numAll X r).getD k 0 < 256) ∧ (r.getD 7 0 = 0 ∨ (numAll X r).drop 5 ≠ List.replicate 8 0)

instance (X r : List Int) : Decidable (NumOk X r) := by unfold NumOk; infer_instance

end Go.Proofs.Ytlfkodlnhfdgjaa

namespace Go.Proofs.Ytlfkodlnhfdgjaa
open Go.RowKit

end Go.Proofs.Ytlfkodlnhfdgjaa

namespace Go.Proofs.Ytlfkodlnhfdgjaa
open Go.RowKit

end Go.Proofs.Ytlfkodlnhfdgjaa

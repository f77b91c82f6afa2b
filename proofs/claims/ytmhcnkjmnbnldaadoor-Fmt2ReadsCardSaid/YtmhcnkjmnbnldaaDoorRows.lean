/-
  NARROWER THAN 'FOR EVERY INPUT', by the rows' own cells (each row's printed sentence says how): Fmt1Both: laid · Fmt1Lays: laid · Fmt1Reads: laid · Fmt2Lays: laid · Fmt2Reads: laid.
  DERIVED. THE GIVEN ROWS OF THIS SEAT. 5 by the template 'for every input the law returns true; each argument reads behind the call as it read before'; 0 by the template 'total and deterministic' (their statements: YtmhcnkjmnbnldaaDoorTotals.lean).
  GIVEN WITH THE SEED: the statements are not yours to turn. If you find one false, say at which input.
  Laid BY PROGRAM, IN A SANDBOX (cutbox-rows.mjs): the forced cells as the released guide's own fill.sh prints them over the translation a7c810f81f776446… (all of the seat's roots in one cut). By AI agents, Wed Nov 11 2026. No macro, syntax, notation, axiom, sorry.
-/
import Derived.Test.YtmhcnkjmnbnldaaDoorChecked
import GoSem.Claim
import GoSem.ClaimJoined
import GoSem.ClaimMapViews
import Derived.JoinedTies
import Derived.KernelRfl
namespace Go.Proofs.YtmhcnkjmnbnldaaDoor
/- THE CELL 'sum', in the pinned program and in every row, IS THE sha256 OF THE DUMP (.gsa) THAT YtmhcnkjmnbnldaaDoorProg.lean LOADS. Nothing in Lean hashes anything: it is a label: what it is worth is what the hold of that sum in a sandbox is worth. -/
noncomputable def Tryd.pinned : Pinned := { name := "ytmhcnkjmnbnldaadoor", sum := "a7c810f81f77644656fb6ea319c582f6e4a5aa6d81bd64426859c3abcd3708bb", checked := Tryd.checked }
namespace Rows
def none {H : Type} : Left H := { results := [], args := [] }

/- WHAT THE LISTED PACKAGE-LEVEL VARIABLES READ AS WHEN THE CALL BEGINS. Each datum BY PROGRAM (the guide's laid-datum.mjs) off the statement by which the dump's own 'gosem.cut.vars' lays the variable. In a bare row this is a premise. The card (YtmhcnkjmnbnldaaDoorCards.lean) ties it to the program's text. -/
def laid_math_bits_deBruijn64tab {H : Type} : DataW H := .agg [.lit (.int .u8 0), .lit (.int .u8 1), .lit (.int .u8 56), .lit (.int .u8 2), .lit (.int .u8 57), .lit (.int .u8 49), .lit (.int .u8 28), .lit (.int .u8 3), .lit (.int .u8 61), .lit (.int .u8 58), .lit (.int .u8 42), .lit (.int .u8 50), .lit (.int .u8 38), .lit (.int .u8 29), .lit (.int .u8 17), .lit (.int .u8 4), .lit (.int .u8 62), .lit (.int .u8 47), .lit (.int .u8 59), .lit (.int .u8 36), .lit (.int .u8 45), .lit (.int .u8 43), .lit (.int .u8 51), .lit (.int .u8 22), .lit (.int .u8 53), .lit (.int .u8 39), .lit (.int .u8 33), .lit (.int .u8 30), .lit (.int .u8 24), .lit (.int .u8 18), .lit (.int .u8 12), .lit (.int .u8 5), .lit (.int .u8 63), .lit (.int .u8 55), .lit (.int .u8 48), .lit (.int .u8 27), .lit (.int .u8 60), .lit (.int .u8 41), .lit (.int .u8 37), .lit (.int .u8 16), .lit (.int .u8 46), .lit (.int .u8 35), .lit (.int .u8 44), .lit (.int .u8 21), .lit (.int .u8 52), .lit (.int .u8 32), .lit (.int .u8 23), .lit (.int .u8 11), .lit (.int .u8 54), .lit (.int .u8 26), .lit (.int .u8 40), .lit (.int .u8 15), .lit (.int .u8 34), .lit (.int .u8 20), .lit (.int .u8 31), .lit (.int .u8 10), .lit (.int .u8 25), .lit (.int .u8 14), .lit (.int .u8 19), .lit (.int .u8 9), .lit (.int .u8 13), .lit (.int .u8 8), .lit (.int .u8 7), .lit (.int .u8 6)]

/-- 'imagolaw06.Fmt1Both': WHATEVER THE INPUT: true; the input reads as it did. -/
def fmt1BothSpec : ChangeSpec := { name := "fmt1Both", fn := fun _ => fun
  | [d1, d2] => { results := [.lit (.bool true)], args := [d1, d2] }
  | _ => none }
def fmt1BothRow : OpenClaim := { program := "ytmhcnkjmnbnldaadoor", sum := "a7c810f81f77644656fb6ea319c582f6e4a5aa6d81bd64426859c3abcd3708bb", func := "imago/imagolaw06.Fmt1Both", spec := "fmt1Both", named := ["math/bits.deBruijn64tab"], apart := false, laid := [("math/bits.deBruijn64tab", laid_math_bits_deBruijn64tab)] }
def Fmt1BothSaid : Prop := fmt1BothRow.holds Tryd.pinned (OpenSpec.ofChange fmt1BothSpec)

/-- ITS FALSE NEIGHBOUR: 'it returns false'. Refute it at one input. -/
def fmt1BothWrong : ChangeSpec := { name := "fmt1Both", fn := fun _ => fun
  | [d1, d2] => { results := [.lit (.bool false)], args := [d1, d2] }
  | _ => none }
def Fmt1BothWrongFalsely : Prop := fmt1BothRow.holds Tryd.pinned (OpenSpec.ofChange fmt1BothWrong)

/-- 'imagolaw06.Fmt1Lays': WHATEVER THE INPUT: true; the input reads as it did. -/
def fmt1LaysSpec : ChangeSpec := { name := "fmt1Lays", fn := fun _ => fun
  | [d1, d2, d3] => { results := [.lit (.bool true)], args := [d1, d2, d3] }
  | _ => none }
def fmt1LaysRow : OpenClaim := { program := "ytmhcnkjmnbnldaadoor", sum := "a7c810f81f77644656fb6ea319c582f6e4a5aa6d81bd64426859c3abcd3708bb", func := "imago/imagolaw06.Fmt1Lays", spec := "fmt1Lays", named := ["math/bits.deBruijn64tab"], apart := false, laid := [("math/bits.deBruijn64tab", laid_math_bits_deBruijn64tab)] }
def Fmt1LaysSaid : Prop := fmt1LaysRow.holds Tryd.pinned (OpenSpec.ofChange fmt1LaysSpec)

/-- ITS FALSE NEIGHBOUR: 'it returns false'. Refute it at one input. -/
def fmt1LaysWrong : ChangeSpec := { name := "fmt1Lays", fn := fun _ => fun
  | [d1, d2, d3] => { results := [.lit (.bool false)], args := [d1, d2, d3] }
  | _ => none }
def Fmt1LaysWrongFalsely : Prop := fmt1LaysRow.holds Tryd.pinned (OpenSpec.ofChange fmt1LaysWrong)

/-- 'imagolaw06.Fmt1Reads': WHATEVER THE INPUT: true; the input reads as it did. -/
def fmt1ReadsSpec : ChangeSpec := { name := "fmt1Reads", fn := fun _ => fun
  | [d1, d2] => { results := [.lit (.bool true)], args := [d1, d2] }
  | _ => none }
def fmt1ReadsRow : OpenClaim := { program := "ytmhcnkjmnbnldaadoor", sum := "a7c810f81f77644656fb6ea319c582f6e4a5aa6d81bd64426859c3abcd3708bb", func := "imago/imagolaw06.Fmt1Reads", spec := "fmt1Reads", named := ["math/bits.deBruijn64tab"], apart := false, laid := [("math/bits.deBruijn64tab", laid_math_bits_deBruijn64tab)] }
def Fmt1ReadsSaid : Prop := fmt1ReadsRow.holds Tryd.pinned (OpenSpec.ofChange fmt1ReadsSpec)

/-- ITS FALSE NEIGHBOUR: 'it returns false'. Refute it at one input. -/
def fmt1ReadsWrong : ChangeSpec := { name := "fmt1Reads", fn := fun _ => fun
  | [d1, d2] => { results := [.lit (.bool false)], args := [d1, d2] }
  | _ => none }
def Fmt1ReadsWrongFalsely : Prop := fmt1ReadsRow.holds Tryd.pinned (OpenSpec.ofChange fmt1ReadsWrong)

/-- 'imagolaw07.Fmt2Lays': WHATEVER THE INPUT: true; the input reads as it did. -/
def fmt2LaysSpec : ChangeSpec := { name := "fmt2Lays", fn := fun _ => fun
  | [d1, d2, d3] => { results := [.lit (.bool true)], args := [d1, d2, d3] }
  | _ => none }
def fmt2LaysRow : OpenClaim := { program := "ytmhcnkjmnbnldaadoor", sum := "a7c810f81f77644656fb6ea319c582f6e4a5aa6d81bd64426859c3abcd3708bb", func := "imago/imagolaw07.Fmt2Lays", spec := "fmt2Lays", unfollowed := true, recurses := true, named := ["math/bits.deBruijn64tab"], apart := false, laid := [("math/bits.deBruijn64tab", laid_math_bits_deBruijn64tab)] }
def Fmt2LaysSaid : Prop := fmt2LaysRow.holds Tryd.pinned (OpenSpec.ofChange fmt2LaysSpec)

/-- ITS FALSE NEIGHBOUR: 'it returns false'. Refute it at one input. -/
def fmt2LaysWrong : ChangeSpec := { name := "fmt2Lays", fn := fun _ => fun
  | [d1, d2, d3] => { results := [.lit (.bool false)], args := [d1, d2, d3] }
  | _ => none }
def Fmt2LaysWrongFalsely : Prop := fmt2LaysRow.holds Tryd.pinned (OpenSpec.ofChange fmt2LaysWrong)

/-- 'imagolaw07.Fmt2Reads': WHATEVER THE INPUT: true; the input reads as it did. -/
def fmt2ReadsSpec : ChangeSpec := { name := "fmt2Reads", fn := fun _ => fun
  | [d1, d2] => { results := [.lit (.bool true)], args := [d1, d2] }
  | _ => none }
def fmt2ReadsRow : OpenClaim := { program := "ytmhcnkjmnbnldaadoor", sum := "a7c810f81f77644656fb6ea319c582f6e4a5aa6d81bd64426859c3abcd3708bb", func := "imago/imagolaw07.Fmt2Reads", spec := "fmt2Reads", unfollowed := true, recurses := true, named := ["math/bits.deBruijn64tab"], apart := false, laid := [("math/bits.deBruijn64tab", laid_math_bits_deBruijn64tab)] }
def Fmt2ReadsSaid : Prop := fmt2ReadsRow.holds Tryd.pinned (OpenSpec.ofChange fmt2ReadsSpec)

/-- ITS FALSE NEIGHBOUR: 'it returns false'. Refute it at one input. -/
def fmt2ReadsWrong : ChangeSpec := { name := "fmt2Reads", fn := fun _ => fun
  | [d1, d2] => { results := [.lit (.bool false)], args := [d1, d2] }
  | _ => none }
def Fmt2ReadsWrongFalsely : Prop := fmt2ReadsRow.holds Tryd.pinned (OpenSpec.ofChange fmt2ReadsWrong)

/- THE SECOND FORM. 'bulk': how many values and letters a reading holds, each counted each time it is reached (what is shared counts as often as it is met; a slice's spare places count too). A statement '..UptoSaid' is the law's where the arguments, and the package variables that the reading takes, are together of bulk at most 1048576: NARROWER than '..Said'. Prove '..Said' where nothing that the law and all that it calls make is longer than what came in: it says more and counts as full. Else prove '..UptoSaid'. A law counts once. -/
mutual
def uptoBulk {H : Type} : DataW H → Nat
  | .lit (.string bytes) => bytes.length + 1
  | .lit _ => 1
  | .nil => 1
  | .ptr d => uptoBulk d + 1
  | .slice elems spare => uptoBulkAll elems + uptoBulkAll spare + 1
  | .agg parts => uptoBulkAll parts + 1
  | .iface _ d => uptoBulk d + 1
  | .map entries => uptoBulkEntries entries + 1
  | .held _ => 1
def uptoBulkAll {H : Type} : List (DataW H) → Nat
  | [] => 0
  | d :: r => uptoBulk d + uptoBulkAll r
def uptoBulkEntries {H : Type} : List (Lit × DataW H) → Nat
  | [] => 0
  | x :: r => uptoBulkEntry x + uptoBulkEntries r
def uptoBulkEntry {H : Type} : Lit × DataW H → Nat
  | (.string bytes, d) => bytes.length + uptoBulk d + 1
  | (_, d) => uptoBulk d + 1
 end
def uptoSmall : (H : Type) → List (DataW H) → Bool := fun _ ds => decide (uptoBulkAll ds ≤ 1048576)
def OpenSpec.upto (s : _root_.Go.ChangeSpec) : _root_.Go.OpenSpec := { _root_.Go.OpenSpec.ofChange s with cond := some uptoSmall }

/-- 'imagolaw06.Fmt1Both', WHERE WHAT IT READS IS OF BULK AT MOST 1048576: true; the input reads as it did. -/
def fmt1BothUptoRow : OpenClaim := { program := "ytmhcnkjmnbnldaadoor", sum := "a7c810f81f77644656fb6ea319c582f6e4a5aa6d81bd64426859c3abcd3708bb", func := "imago/imagolaw06.Fmt1Both", spec := "fmt1Both", named := ["math/bits.deBruijn64tab"], apart := false, laid := [("math/bits.deBruijn64tab", laid_math_bits_deBruijn64tab)], narrowed := true }
def Fmt1BothUptoSaid : Prop := fmt1BothUptoRow.holds Tryd.pinned (OpenSpec.upto fmt1BothSpec)

/-- 'imagolaw06.Fmt1Lays', WHERE WHAT IT READS IS OF BULK AT MOST 1048576: true; the input reads as it did. -/
def fmt1LaysUptoRow : OpenClaim := { program := "ytmhcnkjmnbnldaadoor", sum := "a7c810f81f77644656fb6ea319c582f6e4a5aa6d81bd64426859c3abcd3708bb", func := "imago/imagolaw06.Fmt1Lays", spec := "fmt1Lays", named := ["math/bits.deBruijn64tab"], apart := false, laid := [("math/bits.deBruijn64tab", laid_math_bits_deBruijn64tab)], narrowed := true }
def Fmt1LaysUptoSaid : Prop := fmt1LaysUptoRow.holds Tryd.pinned (OpenSpec.upto fmt1LaysSpec)

/-- 'imagolaw06.Fmt1Reads', WHERE WHAT IT READS IS OF BULK AT MOST 1048576: true; the input reads as it did. -/
def fmt1ReadsUptoRow : OpenClaim := { program := "ytmhcnkjmnbnldaadoor", sum := "a7c810f81f77644656fb6ea319c582f6e4a5aa6d81bd64426859c3abcd3708bb", func := "imago/imagolaw06.Fmt1Reads", spec := "fmt1Reads", named := ["math/bits.deBruijn64tab"], apart := false, laid := [("math/bits.deBruijn64tab", laid_math_bits_deBruijn64tab)], narrowed := true }
def Fmt1ReadsUptoSaid : Prop := fmt1ReadsUptoRow.holds Tryd.pinned (OpenSpec.upto fmt1ReadsSpec)

/-- 'imagolaw07.Fmt2Lays', WHERE WHAT IT READS IS OF BULK AT MOST 1048576: true; the input reads as it did. -/
def fmt2LaysUptoRow : OpenClaim := { program := "ytmhcnkjmnbnldaadoor", sum := "a7c810f81f77644656fb6ea319c582f6e4a5aa6d81bd64426859c3abcd3708bb", func := "imago/imagolaw07.Fmt2Lays", spec := "fmt2Lays", unfollowed := true, recurses := true, named := ["math/bits.deBruijn64tab"], apart := false, laid := [("math/bits.deBruijn64tab", laid_math_bits_deBruijn64tab)], narrowed := true }
def Fmt2LaysUptoSaid : Prop := fmt2LaysUptoRow.holds Tryd.pinned (OpenSpec.upto fmt2LaysSpec)

/-- 'imagolaw07.Fmt2Reads', WHERE WHAT IT READS IS OF BULK AT MOST 1048576: true; the input reads as it did. -/
def fmt2ReadsUptoRow : OpenClaim := { program := "ytmhcnkjmnbnldaadoor", sum := "a7c810f81f77644656fb6ea319c582f6e4a5aa6d81bd64426859c3abcd3708bb", func := "imago/imagolaw07.Fmt2Reads", spec := "fmt2Reads", unfollowed := true, recurses := true, named := ["math/bits.deBruijn64tab"], apart := false, laid := [("math/bits.deBruijn64tab", laid_math_bits_deBruijn64tab)], narrowed := true }
def Fmt2ReadsUptoSaid : Prop := fmt2ReadsUptoRow.holds Tryd.pinned (OpenSpec.upto fmt2ReadsSpec)

end Rows
end Go.Proofs.YtmhcnkjmnbnldaaDoor

/-
  No cell of these rows narrows 'for every input' (looked for: loops, veiled, ifaces, maps, wideKeys, modest, calm, conditions, laid).
  DERIVED. THE GIVEN ROWS OF THIS SEAT. 4 by the template 'for every input the law returns true; each argument reads behind the call as it read before'; 0 by the template 'total and deterministic' (their statements: YtopljfbgbiipiaaTotals.lean).
  GIVEN WITH THE SEED: the statements are not yours to turn. If you find one false, say at which input.
  Laid BY PROGRAM, IN A SANDBOX (cutbox-rows.mjs): the forced cells as the released guide's own fill.sh prints them over the translation 533d43618e6878cd… (all of the seat's roots in one cut). By AI agents, Wed Nov 11 2026. No macro, syntax, notation, axiom, sorry.
-/
import Derived.Test.YtopljfbgbiipiaaChecked
import GoSem.Claim
import GoSem.ClaimJoined
import GoSem.ClaimMapViews
import Derived.JoinedTies
import Derived.KernelRfl
namespace Go.Proofs.Ytopljfbgbiipiaa
/- THE CELL 'sum', in the pinned program and in every row, IS THE sha256 OF THE DUMP (.gsa) THAT YtopljfbgbiipiaaProg.lean LOADS. Nothing in Lean hashes anything: it is a label: what it is worth is what the hold of that sum in a sandbox is worth. -/
noncomputable def Try.pinned : Pinned := { name := "ytopljfbgbiipiaa", sum := "533d43618e6878cd975070b533040d2556fa0db573256a85a7b3a9452a49fc13", checked := Try.checked }
namespace Rows
def none {H : Type} : Left H := { results := [], args := [] }

/-- 'imagolaw03.PlogTwice': WHATEVER THE INPUT: true; the input reads as it did. -/
def plogTwiceSpec : ChangeSpec := { name := "plogTwice", fn := fun _ => fun
  | [d1, d2] => { results := [.lit (.bool true)], args := [d1, d2] }
  | _ => none }
def plogTwiceRow : OpenClaim := { program := "ytopljfbgbiipiaa", sum := "533d43618e6878cd975070b533040d2556fa0db573256a85a7b3a9452a49fc13", func := "imago/imagolaw03.PlogTwice", spec := "plogTwice", apart := false }
def PlogTwiceSaid : Prop := plogTwiceRow.holds Try.pinned (OpenSpec.ofChange plogTwiceSpec)

/-- ITS FALSE NEIGHBOUR: 'it returns false'. Refute it at one input. -/
def plogTwiceWrong : ChangeSpec := { name := "plogTwice", fn := fun _ => fun
  | [d1, d2] => { results := [.lit (.bool false)], args := [d1, d2] }
  | _ => none }
def PlogTwiceWrongFalsely : Prop := plogTwiceRow.holds Try.pinned (OpenSpec.ofChange plogTwiceWrong)

/-- 'imagolaw03.PlogCommits': WHATEVER THE INPUT: true; the input reads as it did. -/
def plogCommitsSpec : ChangeSpec := { name := "plogCommits", fn := fun _ => fun
  | [d1, d2] => { results := [.lit (.bool true)], args := [d1, d2] }
  | _ => none }
def plogCommitsRow : OpenClaim := { program := "ytopljfbgbiipiaa", sum := "533d43618e6878cd975070b533040d2556fa0db573256a85a7b3a9452a49fc13", func := "imago/imagolaw03.PlogCommits", spec := "plogCommits", apart := false }
def PlogCommitsSaid : Prop := plogCommitsRow.holds Try.pinned (OpenSpec.ofChange plogCommitsSpec)

/-- ITS FALSE NEIGHBOUR: 'it returns false'. Refute it at one input. -/
def plogCommitsWrong : ChangeSpec := { name := "plogCommits", fn := fun _ => fun
  | [d1, d2] => { results := [.lit (.bool false)], args := [d1, d2] }
  | _ => none }
def PlogCommitsWrongFalsely : Prop := plogCommitsRow.holds Try.pinned (OpenSpec.ofChange plogCommitsWrong)

/-- 'imagolaw03.PlogStands': WHATEVER THE INPUT: true; the input reads as it did. -/
def plogStandsSpec : ChangeSpec := { name := "plogStands", fn := fun _ => fun
  | [d1, d2, d3] => { results := [.lit (.bool true)], args := [d1, d2, d3] }
  | _ => none }
def plogStandsRow : OpenClaim := { program := "ytopljfbgbiipiaa", sum := "533d43618e6878cd975070b533040d2556fa0db573256a85a7b3a9452a49fc13", func := "imago/imagolaw03.PlogStands", spec := "plogStands", apart := false }
def PlogStandsSaid : Prop := plogStandsRow.holds Try.pinned (OpenSpec.ofChange plogStandsSpec)

/-- ITS FALSE NEIGHBOUR: 'it returns false'. Refute it at one input. -/
def plogStandsWrong : ChangeSpec := { name := "plogStands", fn := fun _ => fun
  | [d1, d2, d3] => { results := [.lit (.bool false)], args := [d1, d2, d3] }
  | _ => none }
def PlogStandsWrongFalsely : Prop := plogStandsRow.holds Try.pinned (OpenSpec.ofChange plogStandsWrong)

/-- 'imagolaw03.PlogArgs': WHATEVER THE INPUT: true; the input reads as it did. -/
def plogArgsSpec : ChangeSpec := { name := "plogArgs", fn := fun _ => fun
  | [d1, d2] => { results := [.lit (.bool true)], args := [d1, d2] }
  | _ => none }
def plogArgsRow : OpenClaim := { program := "ytopljfbgbiipiaa", sum := "533d43618e6878cd975070b533040d2556fa0db573256a85a7b3a9452a49fc13", func := "imago/imagolaw03.PlogArgs", spec := "plogArgs", apart := false }
def PlogArgsSaid : Prop := plogArgsRow.holds Try.pinned (OpenSpec.ofChange plogArgsSpec)

/-- ITS FALSE NEIGHBOUR: 'it returns false'. Refute it at one input. -/
def plogArgsWrong : ChangeSpec := { name := "plogArgs", fn := fun _ => fun
  | [d1, d2] => { results := [.lit (.bool false)], args := [d1, d2] }
  | _ => none }
def PlogArgsWrongFalsely : Prop := plogArgsRow.holds Try.pinned (OpenSpec.ofChange plogArgsWrong)

/- THE SECOND FORM. 'bulk': how many values and letters a reading holds, each counted each time it is reached (what is shared counts as often as it is met; a slice's spare places count too). A statement '..UptoSaid' is the law's where the arguments, and the package variables that the reading takes, are together of bulk at most 1048576: NARROWER than '..Said'. Prove '..Said' where nothing that the law and all that it calls make is longer than what came in: it says more and counts as full. Else prove '..UptoSaid'. A law counts once. -/
mutual
def uptoBulk {H : Type} : DataW H → Nat
  | .lit (.string bytes) => bytes.length + 1
  | .lit _ => 1
  | .nil => 1
  | .ptr d => uptoBulk d + 1
  | .slice elems spare => uptoBulkAll elems + uptoBulkAll spare + 1
  | .agg parts => uptoBulkAll parts + 1
  | .iface _ d => uptoBulk d + 1
  | .map entries => uptoBulkEntries entries + 1
  | .held _ => 1
def uptoBulkAll {H : Type} : List (DataW H) → Nat
  | [] => 0
  | d :: r => uptoBulk d + uptoBulkAll r
def uptoBulkEntries {H : Type} : List (Lit × DataW H) → Nat
  | [] => 0
  | x :: r => uptoBulkEntry x + uptoBulkEntries r
def uptoBulkEntry {H : Type} : Lit × DataW H → Nat
  | (.string bytes, d) => bytes.length + uptoBulk d + 1
  | (_, d) => uptoBulk d + 1
 end
def uptoSmall : (H : Type) → List (DataW H) → Bool := fun _ ds => decide (uptoBulkAll ds ≤ 1048576)
def OpenSpec.upto (s : _root_.Go.ChangeSpec) : _root_.Go.OpenSpec := { _root_.Go.OpenSpec.ofChange s with cond := some uptoSmall }

/-- 'imagolaw03.PlogTwice', WHERE WHAT IT READS IS OF BULK AT MOST 1048576: true; the input reads as it did. -/
def plogTwiceUptoRow : OpenClaim := { program := "ytopljfbgbiipiaa", sum := "533d43618e6878cd975070b533040d2556fa0db573256a85a7b3a9452a49fc13", func := "imago/imagolaw03.PlogTwice", spec := "plogTwice", apart := false, narrowed := true }
def PlogTwiceUptoSaid : Prop := plogTwiceUptoRow.holds Try.pinned (OpenSpec.upto plogTwiceSpec)

/-- 'imagolaw03.PlogCommits', WHERE WHAT IT READS IS OF BULK AT MOST 1048576: true; the input reads as it did. -/
def plogCommitsUptoRow : OpenClaim := { program := "ytopljfbgbiipiaa", sum := "533d43618e6878cd975070b533040d2556fa0db573256a85a7b3a9452a49fc13", func := "imago/imagolaw03.PlogCommits", spec := "plogCommits", apart := false, narrowed := true }
def PlogCommitsUptoSaid : Prop := plogCommitsUptoRow.holds Try.pinned (OpenSpec.upto plogCommitsSpec)

/-- 'imagolaw03.PlogStands', WHERE WHAT IT READS IS OF BULK AT MOST 1048576: true; the input reads as it did. -/
def plogStandsUptoRow : OpenClaim := { program := "ytopljfbgbiipiaa", sum := "533d43618e6878cd975070b533040d2556fa0db573256a85a7b3a9452a49fc13", func := "imago/imagolaw03.PlogStands", spec := "plogStands", apart := false, narrowed := true }
def PlogStandsUptoSaid : Prop := plogStandsUptoRow.holds Try.pinned (OpenSpec.upto plogStandsSpec)

/-- 'imagolaw03.PlogArgs', WHERE WHAT IT READS IS OF BULK AT MOST 1048576: true; the input reads as it did. -/
def plogArgsUptoRow : OpenClaim := { program := "ytopljfbgbiipiaa", sum := "533d43618e6878cd975070b533040d2556fa0db573256a85a7b3a9452a49fc13", func := "imago/imagolaw03.PlogArgs", spec := "plogArgs", apart := false, narrowed := true }
def PlogArgsUptoSaid : Prop := plogArgsUptoRow.holds Try.pinned (OpenSpec.upto plogArgsSpec)

end Rows
end Go.Proofs.Ytopljfbgbiipiaa

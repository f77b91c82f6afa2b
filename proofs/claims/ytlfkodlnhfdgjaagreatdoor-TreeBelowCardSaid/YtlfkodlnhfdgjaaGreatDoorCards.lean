/-
  DERIVED. GIVEN WITH THE SEED: THE CARDS: each row of YtlfkodlnhfdgjaaGreatDoorRows.lean that lists a variable, with what it lists TIED to the program's text (the seventh form; the later family's looks); each row that meets fmt, with fmt's text TOLD by the authors' own Lean function (tested against real Go, not proved from fmt's source: count such statements apart). THE CARD IS WHAT COUNTS. Prove the row's statement (the work); the ties are given (YtlfkodlnhfdgjaaGreatDoorTie.lean); close each card by the builder's one call (the guide's Derived/Test/ToyasCard.lean, 'card_holds'). Laid BY PROGRAM, IN A SANDBOX (cutbox-door.mjs). By AI agents, Wed Nov 11 2026. No macro, syntax, notation, axiom, sorry.
-/
import Derived.Test.YtlfkodlnhfdgjaaGreatDoorRows
import GoSem.ClaimSeven
namespace Go.Proofs.YtlfkodlnhfdgjaaGreatDoor
namespace Rows

/-- THE TIED CARD OF 'imagolaw09.TreeBelow'. -/
def treeBelowCard : Claim7 := { stood := { row := treeBelowRow, standIns := [], harness := (true, "40ba0116b3aa85582ddcd626c3fea4465c756d8fd62435179f6afc37acc27440"), looks := false }, kinds := [], alts := [], laidByText := true, laidKinds := [.data], laidTests := true, laidLooks := .later }
def TreeBelowCardSaid : Prop := Claim7.holds Tryz.pinned (.plain (OpenSpec.ofChange treeBelowSpec)) treeBelowCard

/-- THE SECOND FORM's CARD OF 'imagolaw09.TreeBelow'. -/
def treeBelowUptoCard : Claim7 := { stood := { row := treeBelowUptoRow, standIns := [], harness := (true, "40ba0116b3aa85582ddcd626c3fea4465c756d8fd62435179f6afc37acc27440"), looks := false }, kinds := [], alts := [], laidByText := true, laidKinds := [.data], laidTests := true, laidLooks := .later }
def TreeBelowUptoCardSaid : Prop := Claim7.holds Tryz.pinned (.plain (OpenSpec.upto treeBelowSpec)) treeBelowUptoCard
end Rows
end Go.Proofs.YtlfkodlnhfdgjaaGreatDoor

/-
  DERIVED. GIVEN WITH THE SEED: THE CARDS: each row of YtblnnedkfkiofaaGreatDoorRows.lean that lists a variable, with what it lists TIED to the program's text (the seventh form; the later family's looks); each row that meets fmt, with fmt's text TOLD by the authors' own Lean function (tested against real Go, not proved from fmt's source: count such statements apart). THE CARD IS WHAT COUNTS. Prove the row's statement (the work); the ties are given (YtblnnedkfkiofaaGreatDoorTie.lean); close each card by the builder's one call (the guide's Derived/Test/ToyasCard.lean, 'card_holds'). Laid BY PROGRAM, IN A SANDBOX (cutbox-door.mjs). By AI agents, Wed Nov 11 2026. No macro, syntax, notation, axiom, sorry.
-/
import Derived.Test.YtblnnedkfkiofaaGreatDoorRows
import GoSem.ClaimSeven
namespace Go.Proofs.YtblnnedkfkiofaaGreatDoor
namespace Rows

/-- THE TIED CARD OF 'imagolaw08.InodeSpace'. -/
def inodeSpaceCard : Claim7 := { stood := { row := inodeSpaceRow, standIns := [], harness := (true, "3f591a18927f51c621542745dcf9922cfd8aec18d31a3ad81deefdc987f702c3"), looks := false }, kinds := [], alts := [], laidByText := true, laidKinds := [.data], laidTests := true, laidLooks := .later }
def InodeSpaceCardSaid : Prop := Claim7.holds Tryz.pinned (.plain (OpenSpec.ofChange inodeSpaceSpec)) inodeSpaceCard

/-- THE TIED CARD OF 'imagolaw08.InodePlays'. -/
def inodePlaysCard : Claim7 := { stood := { row := inodePlaysRow, standIns := [], harness := (true, "3f591a18927f51c621542745dcf9922cfd8aec18d31a3ad81deefdc987f702c3"), looks := false }, kinds := [], alts := [], laidByText := true, laidKinds := [.data], laidTests := true, laidLooks := .later }
def InodePlaysCardSaid : Prop := Claim7.holds Tryz.pinned (.plain (OpenSpec.ofChange inodePlaysSpec)) inodePlaysCard

/-- THE TIED CARD OF 'imagolaw08.InodeTurns'. -/
def inodeTurnsCard : Claim7 := { stood := { row := inodeTurnsRow, standIns := [], harness := (true, "3f591a18927f51c621542745dcf9922cfd8aec18d31a3ad81deefdc987f702c3"), looks := false }, kinds := [], alts := [], laidByText := true, laidKinds := [.data], laidTests := true, laidLooks := .later }
def InodeTurnsCardSaid : Prop := Claim7.holds Tryz.pinned (.plain (OpenSpec.ofChange inodeTurnsSpec)) inodeTurnsCard

/-- THE TIED CARD OF 'imagolaw08.InodeBent'. -/
def inodeBentCard : Claim7 := { stood := { row := inodeBentRow, standIns := [], harness := (true, "3f591a18927f51c621542745dcf9922cfd8aec18d31a3ad81deefdc987f702c3"), looks := false }, kinds := [], alts := [], laidByText := true, laidKinds := [.data], laidTests := true, laidLooks := .later }
def InodeBentCardSaid : Prop := Claim7.holds Tryz.pinned (.plain (OpenSpec.ofChange inodeBentSpec)) inodeBentCard

/-- THE SECOND FORM's CARD OF 'imagolaw08.InodeSpace'. -/
def inodeSpaceUptoCard : Claim7 := { stood := { row := inodeSpaceUptoRow, standIns := [], harness := (true, "3f591a18927f51c621542745dcf9922cfd8aec18d31a3ad81deefdc987f702c3"), looks := false }, kinds := [], alts := [], laidByText := true, laidKinds := [.data], laidTests := true, laidLooks := .later }
def InodeSpaceUptoCardSaid : Prop := Claim7.holds Tryz.pinned (.plain (OpenSpec.upto inodeSpaceSpec)) inodeSpaceUptoCard

/-- THE SECOND FORM's CARD OF 'imagolaw08.InodePlays'. -/
def inodePlaysUptoCard : Claim7 := { stood := { row := inodePlaysUptoRow, standIns := [], harness := (true, "3f591a18927f51c621542745dcf9922cfd8aec18d31a3ad81deefdc987f702c3"), looks := false }, kinds := [], alts := [], laidByText := true, laidKinds := [.data], laidTests := true, laidLooks := .later }
def InodePlaysUptoCardSaid : Prop := Claim7.holds Tryz.pinned (.plain (OpenSpec.upto inodePlaysSpec)) inodePlaysUptoCard

/-- THE SECOND FORM's CARD OF 'imagolaw08.InodeTurns'. -/
def inodeTurnsUptoCard : Claim7 := { stood := { row := inodeTurnsUptoRow, standIns := [], harness := (true, "3f591a18927f51c621542745dcf9922cfd8aec18d31a3ad81deefdc987f702c3"), looks := false }, kinds := [], alts := [], laidByText := true, laidKinds := [.data], laidTests := true, laidLooks := .later }
def InodeTurnsUptoCardSaid : Prop := Claim7.holds Tryz.pinned (.plain (OpenSpec.upto inodeTurnsSpec)) inodeTurnsUptoCard

/-- THE SECOND FORM's CARD OF 'imagolaw08.InodeBent'. -/
def inodeBentUptoCard : Claim7 := { stood := { row := inodeBentUptoRow, standIns := [], harness := (true, "3f591a18927f51c621542745dcf9922cfd8aec18d31a3ad81deefdc987f702c3"), looks := false }, kinds := [], alts := [], laidByText := true, laidKinds := [.data], laidTests := true, laidLooks := .later }
def InodeBentUptoCardSaid : Prop := Claim7.holds Tryz.pinned (.plain (OpenSpec.upto inodeBentSpec)) inodeBentUptoCard
end Rows
end Go.Proofs.YtblnnedkfkiofaaGreatDoor

/-
  DERIVED. GIVEN WITH THE SEED: THE CARDS: each row of YtphojondgfjmgaaGreatDoorRows.lean that lists a variable, with what it lists TIED to the program's text (the seventh form; the later family's looks); each row that meets fmt, with fmt's text TOLD by the authors' own Lean function (tested against real Go, not proved from fmt's source: count such statements apart). THE CARD IS WHAT COUNTS. Prove the row's statement (the work); the ties are given (YtphojondgfjmgaaGreatDoorTie.lean); close each card by the builder's one call (the guide's Derived/Test/ToyasCard.lean, 'card_holds'). Laid BY PROGRAM, IN A SANDBOX (cutbox-door.mjs). By AI agents, Wed Nov 11 2026. No macro, syntax, notation, axiom, sorry.
-/
import Derived.Test.YtphojondgfjmgaaGreatDoorRows
import GoSem.ClaimSeven
namespace Go.Proofs.YtphojondgfjmgaaGreatDoor
namespace Rows

/-- THE TIED CARD OF 'imagolaw10.CheckSound'. -/
def checkSoundCard : Claim7 := { stood := { row := checkSoundRow, standIns := [], harness := (true, "e58c0da5567505b8725b3d5603300c7c14b36c3c368791b70a28d4968e547f47"), looks := false }, kinds := [], alts := [], laidByText := true, laidKinds := [.data], laidTests := true, laidLooks := .later }
def CheckSoundCardSaid : Prop := Claim7.holds Tryz.pinned (.plain (OpenSpec.ofChange checkSoundSpec)) checkSoundCard

/-- THE TIED CARD OF 'imagolaw10.CheckBits'. -/
def checkBitsCard : Claim7 := { stood := { row := checkBitsRow, standIns := [], harness := (true, "e58c0da5567505b8725b3d5603300c7c14b36c3c368791b70a28d4968e547f47"), looks := false }, kinds := [], alts := [], laidByText := true, laidKinds := [.data], laidTests := true, laidLooks := .later }
def CheckBitsCardSaid : Prop := Claim7.holds Tryz.pinned (.plain (OpenSpec.ofChange checkBitsSpec)) checkBitsCard

/-- THE SECOND FORM's CARD OF 'imagolaw10.CheckSound'. -/
def checkSoundUptoCard : Claim7 := { stood := { row := checkSoundUptoRow, standIns := [], harness := (true, "e58c0da5567505b8725b3d5603300c7c14b36c3c368791b70a28d4968e547f47"), looks := false }, kinds := [], alts := [], laidByText := true, laidKinds := [.data], laidTests := true, laidLooks := .later }
def CheckSoundUptoCardSaid : Prop := Claim7.holds Tryz.pinned (.plain (OpenSpec.upto checkSoundSpec)) checkSoundUptoCard

/-- THE SECOND FORM's CARD OF 'imagolaw10.CheckBits'. -/
def checkBitsUptoCard : Claim7 := { stood := { row := checkBitsUptoRow, standIns := [], harness := (true, "e58c0da5567505b8725b3d5603300c7c14b36c3c368791b70a28d4968e547f47"), looks := false }, kinds := [], alts := [], laidByText := true, laidKinds := [.data], laidTests := true, laidLooks := .later }
def CheckBitsUptoCardSaid : Prop := Claim7.holds Tryz.pinned (.plain (OpenSpec.upto checkBitsSpec)) checkBitsUptoCard
end Rows
end Go.Proofs.YtphojondgfjmgaaGreatDoor

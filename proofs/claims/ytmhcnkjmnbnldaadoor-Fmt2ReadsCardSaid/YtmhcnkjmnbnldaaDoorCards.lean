/-
  DERIVED. GIVEN WITH THE SEED: THE CARDS: each row of YtmhcnkjmnbnldaaDoorRows.lean that lists a variable, with what it lists TIED to the program's text (the seventh form; the later family's looks); each row that meets fmt, with fmt's text TOLD by the authors' own Lean function (tested against real Go, not proved from fmt's source: count such statements apart). THE CARD IS WHAT COUNTS. Prove the row's statement (the work); the ties are given (YtmhcnkjmnbnldaaDoorTie.lean); close each card by the builder's one call (the guide's Derived/Test/ToyasCard.lean, 'card_holds'). Laid BY PROGRAM, IN A SANDBOX (cutbox-door.mjs). By AI agents, Wed Nov 11 2026. No macro, syntax, notation, axiom, sorry.
-/
import Derived.Test.YtmhcnkjmnbnldaaDoorRows
import GoSem.ClaimSeven
namespace Go.Proofs.YtmhcnkjmnbnldaaDoor
namespace Rows

/-- THE TIED CARD OF 'imagolaw06.Fmt1Both'. -/
def fmt1BothCard : Claim7 := { stood := { row := fmt1BothRow, standIns := [], harness := (true, "89038bc09f35d539d5492370e2ad8361ac5ddcad55230f54d1e95ee02c61b101"), looks := false }, kinds := [], alts := [], laidByText := true, laidKinds := [.data], laidTests := true, laidLooks := .later }
def Fmt1BothCardSaid : Prop := Claim7.holds Tryd.pinned (.plain (OpenSpec.ofChange fmt1BothSpec)) fmt1BothCard

/-- THE TIED CARD OF 'imagolaw06.Fmt1Lays'. -/
def fmt1LaysCard : Claim7 := { stood := { row := fmt1LaysRow, standIns := [], harness := (true, "89038bc09f35d539d5492370e2ad8361ac5ddcad55230f54d1e95ee02c61b101"), looks := false }, kinds := [], alts := [], laidByText := true, laidKinds := [.data], laidTests := true, laidLooks := .later }
def Fmt1LaysCardSaid : Prop := Claim7.holds Tryd.pinned (.plain (OpenSpec.ofChange fmt1LaysSpec)) fmt1LaysCard

/-- THE TIED CARD OF 'imagolaw06.Fmt1Reads'. -/
def fmt1ReadsCard : Claim7 := { stood := { row := fmt1ReadsRow, standIns := [], harness := (true, "89038bc09f35d539d5492370e2ad8361ac5ddcad55230f54d1e95ee02c61b101"), looks := false }, kinds := [], alts := [], laidByText := true, laidKinds := [.data], laidTests := true, laidLooks := .later }
def Fmt1ReadsCardSaid : Prop := Claim7.holds Tryd.pinned (.plain (OpenSpec.ofChange fmt1ReadsSpec)) fmt1ReadsCard

/-- THE TIED CARD OF 'imagolaw07.Fmt2Lays'. -/
def fmt2LaysCard : Claim7 := { stood := { row := fmt2LaysRow, standIns := [], harness := (true, "89038bc09f35d539d5492370e2ad8361ac5ddcad55230f54d1e95ee02c61b101"), looks := false }, kinds := [], alts := [], laidByText := true, laidKinds := [.data], laidTests := true, laidLooks := .later }
def Fmt2LaysCardSaid : Prop := Claim7.holds Tryd.pinned (.plain (OpenSpec.ofChange fmt2LaysSpec)) fmt2LaysCard

/-- THE TIED CARD OF 'imagolaw07.Fmt2Reads'. -/
def fmt2ReadsCard : Claim7 := { stood := { row := fmt2ReadsRow, standIns := [], harness := (true, "89038bc09f35d539d5492370e2ad8361ac5ddcad55230f54d1e95ee02c61b101"), looks := false }, kinds := [], alts := [], laidByText := true, laidKinds := [.data], laidTests := true, laidLooks := .later }
def Fmt2ReadsCardSaid : Prop := Claim7.holds Tryd.pinned (.plain (OpenSpec.ofChange fmt2ReadsSpec)) fmt2ReadsCard

/-- THE SECOND FORM's CARD OF 'imagolaw06.Fmt1Both'. -/
def fmt1BothUptoCard : Claim7 := { stood := { row := fmt1BothUptoRow, standIns := [], harness := (true, "89038bc09f35d539d5492370e2ad8361ac5ddcad55230f54d1e95ee02c61b101"), looks := false }, kinds := [], alts := [], laidByText := true, laidKinds := [.data], laidTests := true, laidLooks := .later }
def Fmt1BothUptoCardSaid : Prop := Claim7.holds Tryd.pinned (.plain (OpenSpec.upto fmt1BothSpec)) fmt1BothUptoCard

/-- THE SECOND FORM's CARD OF 'imagolaw06.Fmt1Lays'. -/
def fmt1LaysUptoCard : Claim7 := { stood := { row := fmt1LaysUptoRow, standIns := [], harness := (true, "89038bc09f35d539d5492370e2ad8361ac5ddcad55230f54d1e95ee02c61b101"), looks := false }, kinds := [], alts := [], laidByText := true, laidKinds := [.data], laidTests := true, laidLooks := .later }
def Fmt1LaysUptoCardSaid : Prop := Claim7.holds Tryd.pinned (.plain (OpenSpec.upto fmt1LaysSpec)) fmt1LaysUptoCard

/-- THE SECOND FORM's CARD OF 'imagolaw06.Fmt1Reads'. -/
def fmt1ReadsUptoCard : Claim7 := { stood := { row := fmt1ReadsUptoRow, standIns := [], harness := (true, "89038bc09f35d539d5492370e2ad8361ac5ddcad55230f54d1e95ee02c61b101"), looks := false }, kinds := [], alts := [], laidByText := true, laidKinds := [.data], laidTests := true, laidLooks := .later }
def Fmt1ReadsUptoCardSaid : Prop := Claim7.holds Tryd.pinned (.plain (OpenSpec.upto fmt1ReadsSpec)) fmt1ReadsUptoCard

/-- THE SECOND FORM's CARD OF 'imagolaw07.Fmt2Lays'. -/
def fmt2LaysUptoCard : Claim7 := { stood := { row := fmt2LaysUptoRow, standIns := [], harness := (true, "89038bc09f35d539d5492370e2ad8361ac5ddcad55230f54d1e95ee02c61b101"), looks := false }, kinds := [], alts := [], laidByText := true, laidKinds := [.data], laidTests := true, laidLooks := .later }
def Fmt2LaysUptoCardSaid : Prop := Claim7.holds Tryd.pinned (.plain (OpenSpec.upto fmt2LaysSpec)) fmt2LaysUptoCard

/-- THE SECOND FORM's CARD OF 'imagolaw07.Fmt2Reads'. -/
def fmt2ReadsUptoCard : Claim7 := { stood := { row := fmt2ReadsUptoRow, standIns := [], harness := (true, "89038bc09f35d539d5492370e2ad8361ac5ddcad55230f54d1e95ee02c61b101"), looks := false }, kinds := [], alts := [], laidByText := true, laidKinds := [.data], laidTests := true, laidLooks := .later }
def Fmt2ReadsUptoCardSaid : Prop := Claim7.holds Tryd.pinned (.plain (OpenSpec.upto fmt2ReadsSpec)) fmt2ReadsUptoCard
end Rows
end Go.Proofs.YtmhcnkjmnbnldaaDoor

/-
  DERIVED. GIVEN WITH THE SEED: THE CARDS: each row of YtpndogcdmoeemaaDoorRows.lean that lists a variable, with what it lists TIED to the program's text (the seventh form; the later family's looks); each row that meets fmt, with fmt's text TOLD by the authors' own Lean function (tested against real Go, not proved from fmt's source: count such statements apart). THE CARD IS WHAT COUNTS. Prove the row's statement (the work); the ties are given (YtpndogcdmoeemaaDoorTie.lean); close each card by the builder's one call (the guide's Derived/Test/ToyasCard.lean, 'card_holds'). Laid BY PROGRAM, IN A SANDBOX (cutbox-door.mjs). By AI agents, Wed Nov 11 2026. No macro, syntax, notation, axiom, sorry.
-/
import Derived.Test.YtpndogcdmoeemaaDoorRows
import GoSem.ClaimSeven
namespace Go.Proofs.YtpndogcdmoeemaaDoor
namespace Rows

/-- THE TIED CARD OF 'imagolaw05.PallocApart'. -/
def pallocApartCard : Claim7 := { stood := { row := pallocApartRow, standIns := [], harness := (true, "9717f1d02de9e507d39871915025836657d46e88c38700a04f776094cd5ab299"), looks := false }, kinds := [], alts := [], laidByText := true, laidKinds := [.data], laidTests := true, laidLooks := .later }
def PallocApartCardSaid : Prop := Claim7.holds Tryd.pinned (.plain (OpenSpec.ofChange pallocApartSpec)) pallocApartCard

/-- THE TIED CARD OF 'imagolaw05.PallocSets'. -/
def pallocSetsCard : Claim7 := { stood := { row := pallocSetsRow, standIns := [], harness := (true, "9717f1d02de9e507d39871915025836657d46e88c38700a04f776094cd5ab299"), looks := false }, kinds := [], alts := [], laidByText := true, laidKinds := [.data], laidTests := true, laidLooks := .later }
def PallocSetsCardSaid : Prop := Claim7.holds Tryd.pinned (.plain (OpenSpec.ofChange pallocSetsSpec)) pallocSetsCard

/-- THE SECOND FORM's CARD OF 'imagolaw05.PallocApart'. -/
def pallocApartUptoCard : Claim7 := { stood := { row := pallocApartUptoRow, standIns := [], harness := (true, "9717f1d02de9e507d39871915025836657d46e88c38700a04f776094cd5ab299"), looks := false }, kinds := [], alts := [], laidByText := true, laidKinds := [.data], laidTests := true, laidLooks := .later }
def PallocApartUptoCardSaid : Prop := Claim7.holds Tryd.pinned (.plain (OpenSpec.upto pallocApartSpec)) pallocApartUptoCard

/-- THE SECOND FORM's CARD OF 'imagolaw05.PallocSets'. -/
def pallocSetsUptoCard : Claim7 := { stood := { row := pallocSetsUptoRow, standIns := [], harness := (true, "9717f1d02de9e507d39871915025836657d46e88c38700a04f776094cd5ab299"), looks := false }, kinds := [], alts := [], laidByText := true, laidKinds := [.data], laidTests := true, laidLooks := .later }
def PallocSetsUptoCardSaid : Prop := Claim7.holds Tryd.pinned (.plain (OpenSpec.upto pallocSetsSpec)) pallocSetsUptoCard
end Rows
end Go.Proofs.YtpndogcdmoeemaaDoor

/-
  DERIVED. GIVEN WITH THE SEED: THE CARDS: each row of YtcecbdeamjigiaaGreatDoorRows.lean that lists a variable, with what it lists TIED to the program's text (the seventh form; the later family's looks); each row that meets fmt, with fmt's text TOLD by the authors' own Lean function (tested against real Go, not proved from fmt's source: count such statements apart). THE CARD IS WHAT COUNTS. Prove the row's statement (the work); the ties are given (YtcecbdeamjigiaaGreatDoorTie.lean); close each card by the builder's one call (the guide's Derived/Test/ToyasCard.lean, 'card_holds'). Laid BY PROGRAM, IN A SANDBOX (cutbox-door.mjs). By AI agents, Wed Nov 11 2026. No macro, syntax, notation, axiom, sorry.
-/
import Derived.Test.YtcecbdeamjigiaaGreatDoorRows
import GoSem.ClaimSeven
namespace Go.Proofs.YtcecbdeamjigiaaGreatDoor
namespace Rows

/-- THE TIED CARD OF 'imagolaw12.VfsReads'. -/
def vfsReadsCard : Claim7 := { stood := { row := vfsReadsRow, standIns := [], harness := (true, "96c2263b922c23866ad8140eccefaa6390733eebf0070fa70697c6c6248ade0a"), looks := false }, kinds := [], alts := [], laidByText := true, laidKinds := [.data], laidTests := true, laidLooks := .later }
def VfsReadsCardSaid : Prop := Claim7.holds Tryz.pinned (.plain (OpenSpec.ofChange vfsReadsSpec)) vfsReadsCard

/-- THE TIED CARD OF 'imagolaw12.VfsNames'. -/
def vfsNamesCard : Claim7 := { stood := { row := vfsNamesRow, standIns := [], harness := (true, "96c2263b922c23866ad8140eccefaa6390733eebf0070fa70697c6c6248ade0a"), looks := false }, kinds := [], alts := [], laidByText := true, laidKinds := [.data], laidTests := true, laidLooks := .later }
def VfsNamesCardSaid : Prop := Claim7.holds Tryz.pinned (.plain (OpenSpec.ofChange vfsNamesSpec)) vfsNamesCard

/-- THE TIED CARD OF 'imagolaw12.VfsPlays'. -/
def vfsPlaysCard : Claim7 := { stood := { row := vfsPlaysRow, standIns := [], harness := (true, "96c2263b922c23866ad8140eccefaa6390733eebf0070fa70697c6c6248ade0a"), looks := false }, kinds := [], alts := [], laidByText := true, laidKinds := [.data], laidTests := true, laidLooks := .later }
def VfsPlaysCardSaid : Prop := Claim7.holds Tryz.pinned (.plain (OpenSpec.ofChange vfsPlaysSpec)) vfsPlaysCard

/-- THE TIED CARD OF 'imagolaw12.VfsRoom'. -/
def vfsRoomCard : Claim7 := { stood := { row := vfsRoomRow, standIns := [], harness := (true, "96c2263b922c23866ad8140eccefaa6390733eebf0070fa70697c6c6248ade0a"), looks := false }, kinds := [], alts := [], laidByText := true, laidKinds := [.data], laidTests := true, laidLooks := .later }
def VfsRoomCardSaid : Prop := Claim7.holds Tryz.pinned (.plain (OpenSpec.ofChange vfsRoomSpec)) vfsRoomCard

/-- THE TIED CARD OF 'imagolaw12.VfsMounts'. -/
def vfsMountsCard : Claim7 := { stood := { row := vfsMountsRow, standIns := [], harness := (true, "96c2263b922c23866ad8140eccefaa6390733eebf0070fa70697c6c6248ade0a"), looks := false }, kinds := [], alts := [], laidByText := true, laidKinds := [.data], laidTests := true, laidLooks := .later }
def VfsMountsCardSaid : Prop := Claim7.holds Tryz.pinned (.plain (OpenSpec.ofChange vfsMountsSpec)) vfsMountsCard

/-- THE TIED CARD OF 'imagolaw12.VfsArgs'. -/
def vfsArgsCard : Claim7 := { stood := { row := vfsArgsRow, standIns := [], harness := (true, "96c2263b922c23866ad8140eccefaa6390733eebf0070fa70697c6c6248ade0a"), looks := false }, kinds := [], alts := [], laidByText := true, laidKinds := [.data], laidTests := true, laidLooks := .later }
def VfsArgsCardSaid : Prop := Claim7.holds Tryz.pinned (.plain (OpenSpec.ofChange vfsArgsSpec)) vfsArgsCard

/-- THE SECOND FORM's CARD OF 'imagolaw12.VfsReads'. -/
def vfsReadsUptoCard : Claim7 := { stood := { row := vfsReadsUptoRow, standIns := [], harness := (true, "96c2263b922c23866ad8140eccefaa6390733eebf0070fa70697c6c6248ade0a"), looks := false }, kinds := [], alts := [], laidByText := true, laidKinds := [.data], laidTests := true, laidLooks := .later }
def VfsReadsUptoCardSaid : Prop := Claim7.holds Tryz.pinned (.plain (OpenSpec.upto vfsReadsSpec)) vfsReadsUptoCard

/-- THE SECOND FORM's CARD OF 'imagolaw12.VfsNames'. -/
def vfsNamesUptoCard : Claim7 := { stood := { row := vfsNamesUptoRow, standIns := [], harness := (true, "96c2263b922c23866ad8140eccefaa6390733eebf0070fa70697c6c6248ade0a"), looks := false }, kinds := [], alts := [], laidByText := true, laidKinds := [.data], laidTests := true, laidLooks := .later }
def VfsNamesUptoCardSaid : Prop := Claim7.holds Tryz.pinned (.plain (OpenSpec.upto vfsNamesSpec)) vfsNamesUptoCard

/-- THE SECOND FORM's CARD OF 'imagolaw12.VfsPlays'. -/
def vfsPlaysUptoCard : Claim7 := { stood := { row := vfsPlaysUptoRow, standIns := [], harness := (true, "96c2263b922c23866ad8140eccefaa6390733eebf0070fa70697c6c6248ade0a"), looks := false }, kinds := [], alts := [], laidByText := true, laidKinds := [.data], laidTests := true, laidLooks := .later }
def VfsPlaysUptoCardSaid : Prop := Claim7.holds Tryz.pinned (.plain (OpenSpec.upto vfsPlaysSpec)) vfsPlaysUptoCard

/-- THE SECOND FORM's CARD OF 'imagolaw12.VfsRoom'. -/
def vfsRoomUptoCard : Claim7 := { stood := { row := vfsRoomUptoRow, standIns := [], harness := (true, "96c2263b922c23866ad8140eccefaa6390733eebf0070fa70697c6c6248ade0a"), looks := false }, kinds := [], alts := [], laidByText := true, laidKinds := [.data], laidTests := true, laidLooks := .later }
def VfsRoomUptoCardSaid : Prop := Claim7.holds Tryz.pinned (.plain (OpenSpec.upto vfsRoomSpec)) vfsRoomUptoCard

/-- THE SECOND FORM's CARD OF 'imagolaw12.VfsMounts'. -/
def vfsMountsUptoCard : Claim7 := { stood := { row := vfsMountsUptoRow, standIns := [], harness := (true, "96c2263b922c23866ad8140eccefaa6390733eebf0070fa70697c6c6248ade0a"), looks := false }, kinds := [], alts := [], laidByText := true, laidKinds := [.data], laidTests := true, laidLooks := .later }
def VfsMountsUptoCardSaid : Prop := Claim7.holds Tryz.pinned (.plain (OpenSpec.upto vfsMountsSpec)) vfsMountsUptoCard

/-- THE SECOND FORM's CARD OF 'imagolaw12.VfsArgs'. -/
def vfsArgsUptoCard : Claim7 := { stood := { row := vfsArgsUptoRow, standIns := [], harness := (true, "96c2263b922c23866ad8140eccefaa6390733eebf0070fa70697c6c6248ade0a"), looks := false }, kinds := [], alts := [], laidByText := true, laidKinds := [.data], laidTests := true, laidLooks := .later }
def VfsArgsUptoCardSaid : Prop := Claim7.holds Tryz.pinned (.plain (OpenSpec.upto vfsArgsSpec)) vfsArgsUptoCard
end Rows
end Go.Proofs.YtcecbdeamjigiaaGreatDoor

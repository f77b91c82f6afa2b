/-
  DERIVED. GIVEN WITH THE SEED: THE CARDS: each row of YtepbpdipenedhaaGreatDoorRows.lean that lists a variable, with what it lists TIED to the program's text (the seventh form; the later family's looks); each row that meets fmt, with fmt's text TOLD by the authors' own Lean function (tested against real Go, not proved from fmt's source: count such statements apart). THE CARD IS WHAT COUNTS. Prove the row's statement (the work); the ties are given (YtepbpdipenedhaaGreatDoorTie.lean); close each card by the builder's one call (the guide's Derived/Test/ToyasCard.lean, 'card_holds'). Laid BY PROGRAM, IN A SANDBOX (cutbox-door.mjs). By AI agents, Wed Nov 11 2026. No macro, syntax, notation, axiom, sorry.
-/
import Derived.Test.YtepbpdipenedhaaGreatDoorRows
import GoSem.ClaimSeven
namespace Go.Proofs.YtepbpdipenedhaaGreatDoor
namespace Rows

/-- THE TIED CARD OF 'imagolaw12.VfsReads'. -/
def vfsReadsCard : Claim7 := { stood := { row := vfsReadsRow, standIns := [], harness := (true, "5342c005bcfefbcd167f4af42c2a7677d60890fae62d3674c5bebb8025294053"), looks := false }, kinds := [], alts := [], laidByText := true, laidKinds := [.data], laidTests := true, laidLooks := .later }
def VfsReadsCardSaid : Prop := Claim7.holds Tryz.pinned (.plain (OpenSpec.ofChange vfsReadsSpec)) vfsReadsCard

/-- THE TIED CARD OF 'imagolaw12.VfsPlays'. -/
def vfsPlaysCard : Claim7 := { stood := { row := vfsPlaysRow, standIns := [], harness := (true, "5342c005bcfefbcd167f4af42c2a7677d60890fae62d3674c5bebb8025294053"), looks := false }, kinds := [], alts := [], laidByText := true, laidKinds := [.data], laidTests := true, laidLooks := .later }
def VfsPlaysCardSaid : Prop := Claim7.holds Tryz.pinned (.plain (OpenSpec.ofChange vfsPlaysSpec)) vfsPlaysCard

/-- THE TIED CARD OF 'imagolaw12.VfsMounts'. -/
def vfsMountsCard : Claim7 := { stood := { row := vfsMountsRow, standIns := [], harness := (true, "5342c005bcfefbcd167f4af42c2a7677d60890fae62d3674c5bebb8025294053"), looks := false }, kinds := [], alts := [], laidByText := true, laidKinds := [.data], laidTests := true, laidLooks := .later }
def VfsMountsCardSaid : Prop := Claim7.holds Tryz.pinned (.plain (OpenSpec.ofChange vfsMountsSpec)) vfsMountsCard

/-- THE TIED CARD OF 'imagolaw13.ScriptMounts'. -/
def scriptMountsCard : Claim7 := { stood := { row := scriptMountsRow, standIns := [], harness := (true, "5342c005bcfefbcd167f4af42c2a7677d60890fae62d3674c5bebb8025294053"), looks := false }, kinds := [], alts := [], laidByText := true, laidKinds := [.data], laidTests := true, laidLooks := .later }
def ScriptMountsCardSaid : Prop := Claim7.holds Tryz.pinned (.plain (OpenSpec.ofChange scriptMountsSpec)) scriptMountsCard

/-- THE SECOND FORM's CARD OF 'imagolaw12.VfsReads'. -/
def vfsReadsUptoCard : Claim7 := { stood := { row := vfsReadsUptoRow, standIns := [], harness := (true, "5342c005bcfefbcd167f4af42c2a7677d60890fae62d3674c5bebb8025294053"), looks := false }, kinds := [], alts := [], laidByText := true, laidKinds := [.data], laidTests := true, laidLooks := .later }
def VfsReadsUptoCardSaid : Prop := Claim7.holds Tryz.pinned (.plain (OpenSpec.upto vfsReadsSpec)) vfsReadsUptoCard

/-- THE SECOND FORM's CARD OF 'imagolaw12.VfsPlays'. -/
def vfsPlaysUptoCard : Claim7 := { stood := { row := vfsPlaysUptoRow, standIns := [], harness := (true, "5342c005bcfefbcd167f4af42c2a7677d60890fae62d3674c5bebb8025294053"), looks := false }, kinds := [], alts := [], laidByText := true, laidKinds := [.data], laidTests := true, laidLooks := .later }
def VfsPlaysUptoCardSaid : Prop := Claim7.holds Tryz.pinned (.plain (OpenSpec.upto vfsPlaysSpec)) vfsPlaysUptoCard

/-- THE SECOND FORM's CARD OF 'imagolaw12.VfsMounts'. -/
def vfsMountsUptoCard : Claim7 := { stood := { row := vfsMountsUptoRow, standIns := [], harness := (true, "5342c005bcfefbcd167f4af42c2a7677d60890fae62d3674c5bebb8025294053"), looks := false }, kinds := [], alts := [], laidByText := true, laidKinds := [.data], laidTests := true, laidLooks := .later }
def VfsMountsUptoCardSaid : Prop := Claim7.holds Tryz.pinned (.plain (OpenSpec.upto vfsMountsSpec)) vfsMountsUptoCard

/-- THE SECOND FORM's CARD OF 'imagolaw13.ScriptMounts'. -/
def scriptMountsUptoCard : Claim7 := { stood := { row := scriptMountsUptoRow, standIns := [], harness := (true, "5342c005bcfefbcd167f4af42c2a7677d60890fae62d3674c5bebb8025294053"), looks := false }, kinds := [], alts := [], laidByText := true, laidKinds := [.data], laidTests := true, laidLooks := .later }
def ScriptMountsUptoCardSaid : Prop := Claim7.holds Tryz.pinned (.plain (OpenSpec.upto scriptMountsSpec)) scriptMountsUptoCard
end Rows
end Go.Proofs.YtepbpdipenedhaaGreatDoor

/-
  DERIVED. GIVEN WITH THE SEED: THE CARDS: each row of YtimcfdnbpkiniaaGreatDoorRows.lean that lists a variable, with what it lists TIED to the program's text (the seventh form; the later family's looks); each row that meets fmt, with fmt's text TOLD by the authors' own Lean function (tested against real Go, not proved from fmt's source: count such statements apart). THE CARD IS WHAT COUNTS. Prove the row's statement (the work); the ties are given (YtimcfdnbpkiniaaGreatDoorTie.lean); close each card by the builder's one call (the guide's Derived/Test/ToyasCard.lean, 'card_holds'). Laid BY PROGRAM, IN A SANDBOX (cutbox-door.mjs). By AI agents, Wed Nov 11 2026. No macro, syntax, notation, axiom, sorry.
-/
import Derived.Test.YtimcfdnbpkiniaaGreatDoorRows
import GoSem.ClaimSeven
namespace Go.Proofs.YtimcfdnbpkiniaaGreatDoor
namespace Rows

/-- THE TIED CARD OF 'imagolaw12.VfsPlays'. -/
def vfsPlaysCard : Claim7 := { stood := { row := vfsPlaysRow, standIns := [], harness := (true, "15d6f5944ca16eb9866a2936e0ee7dba3f7a58f530c7c6fea178713db46bb27c"), looks := false }, kinds := [], alts := [], laidByText := true, laidKinds := [.data], laidTests := true, laidLooks := .later }
def VfsPlaysCardSaid : Prop := Claim7.holds Tryz.pinned (.plain (OpenSpec.ofChange vfsPlaysSpec)) vfsPlaysCard

/-- THE TIED CARD OF 'imagotop.TopRecovery'. -/
def topRecoveryCard : Claim7 := { stood := { row := topRecoveryRow, standIns := [], harness := (true, "15d6f5944ca16eb9866a2936e0ee7dba3f7a58f530c7c6fea178713db46bb27c"), looks := false }, kinds := [], alts := [], laidByText := true, laidKinds := [.data], laidTests := true, laidLooks := .later }
def TopRecoveryCardSaid : Prop := Claim7.holds Tryz.pinned (.plain (OpenSpec.ofChange topRecoverySpec)) topRecoveryCard

/-- THE TIED CARD OF 'imagotop.TopUnseen'. -/
def topUnseenCard : Claim7 := { stood := { row := topUnseenRow, standIns := [], harness := (true, "15d6f5944ca16eb9866a2936e0ee7dba3f7a58f530c7c6fea178713db46bb27c"), looks := false }, kinds := [], alts := [], laidByText := true, laidKinds := [.data], laidTests := true, laidLooks := .later }
def TopUnseenCardSaid : Prop := Claim7.holds Tryz.pinned (.plain (OpenSpec.ofChange topUnseenSpec)) topUnseenCard

/-- THE TIED CARD OF 'imagotop.TopMount'. -/
def topMountCard : Claim7 := { stood := { row := topMountRow, standIns := [], harness := (true, "15d6f5944ca16eb9866a2936e0ee7dba3f7a58f530c7c6fea178713db46bb27c"), looks := false }, kinds := [], alts := [], laidByText := true, laidKinds := [.data], laidTests := true, laidLooks := .later }
def TopMountCardSaid : Prop := Claim7.holds Tryz.pinned (.plain (OpenSpec.ofChange topMountSpec)) topMountCard

/-- THE SECOND FORM's CARD OF 'imagolaw12.VfsPlays'. -/
def vfsPlaysUptoCard : Claim7 := { stood := { row := vfsPlaysUptoRow, standIns := [], harness := (true, "15d6f5944ca16eb9866a2936e0ee7dba3f7a58f530c7c6fea178713db46bb27c"), looks := false }, kinds := [], alts := [], laidByText := true, laidKinds := [.data], laidTests := true, laidLooks := .later }
def VfsPlaysUptoCardSaid : Prop := Claim7.holds Tryz.pinned (.plain (OpenSpec.upto vfsPlaysSpec)) vfsPlaysUptoCard

/-- THE SECOND FORM's CARD OF 'imagotop.TopRecovery'. -/
def topRecoveryUptoCard : Claim7 := { stood := { row := topRecoveryUptoRow, standIns := [], harness := (true, "15d6f5944ca16eb9866a2936e0ee7dba3f7a58f530c7c6fea178713db46bb27c"), looks := false }, kinds := [], alts := [], laidByText := true, laidKinds := [.data], laidTests := true, laidLooks := .later }
def TopRecoveryUptoCardSaid : Prop := Claim7.holds Tryz.pinned (.plain (OpenSpec.upto topRecoverySpec)) topRecoveryUptoCard

/-- THE SECOND FORM's CARD OF 'imagotop.TopUnseen'. -/
def topUnseenUptoCard : Claim7 := { stood := { row := topUnseenUptoRow, standIns := [], harness := (true, "15d6f5944ca16eb9866a2936e0ee7dba3f7a58f530c7c6fea178713db46bb27c"), looks := false }, kinds := [], alts := [], laidByText := true, laidKinds := [.data], laidTests := true, laidLooks := .later }
def TopUnseenUptoCardSaid : Prop := Claim7.holds Tryz.pinned (.plain (OpenSpec.upto topUnseenSpec)) topUnseenUptoCard

/-- THE SECOND FORM's CARD OF 'imagotop.TopMount'. -/
def topMountUptoCard : Claim7 := { stood := { row := topMountUptoRow, standIns := [], harness := (true, "15d6f5944ca16eb9866a2936e0ee7dba3f7a58f530c7c6fea178713db46bb27c"), looks := false }, kinds := [], alts := [], laidByText := true, laidKinds := [.data], laidTests := true, laidLooks := .later }
def TopMountUptoCardSaid : Prop := Claim7.holds Tryz.pinned (.plain (OpenSpec.upto topMountSpec)) topMountUptoCard
end Rows
end Go.Proofs.YtimcfdnbpkiniaaGreatDoor

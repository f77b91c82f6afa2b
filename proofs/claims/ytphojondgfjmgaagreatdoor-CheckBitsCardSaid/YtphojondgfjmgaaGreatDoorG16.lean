/-
  Layer 8, the reference's table: Do. Layer 8: an inode without its blocks (empty); the law InodeSpace: the sheet behind each call. Layer 8, plain: the words behind a row of operations, held against the reference's table.
-/
import Derived.Test.YtphojondgfjmgaaGreatDoorG14
import Derived.Test.YtphojondgfjmgaaGreatDoorG15
import Derived.Test.YtphojondgfjmgaaGreatDoorG03
import Derived.Test.YtphojondgfjmgaaGreatDoorG07
import Derived.Test.YtphojondgfjmgaaGreatDoorG08
namespace Go.Proofs.YtphojondgfjmgaaGreatDoor
open Go.RowKit
open Go.RowKit
open Go.RowKit
end Go.Proofs.YtphojondgfjmgaaGreatDoor

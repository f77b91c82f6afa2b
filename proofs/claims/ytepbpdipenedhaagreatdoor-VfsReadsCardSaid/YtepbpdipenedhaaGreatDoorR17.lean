/- Lemmas. -/
import Derived.Test.YtepbpdipenedhaaGreatDoorR16
namespace Go.Proofs.YtepbpdipenedhaaGreatDoor
open Go.RowKit
open Go.RowKit
open Go.RowKit
end Go.Proofs.YtepbpdipenedhaaGreatDoor

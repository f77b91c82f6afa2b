/- Lemmas. -/
import Derived.Test.YtepbpdipenedhaaGreatDoorS25
namespace Go.Proofs.YtepbpdipenedhaaGreatDoor
open Go.RowKit
open Go.RowKit
end Go.Proofs.YtepbpdipenedhaaGreatDoor

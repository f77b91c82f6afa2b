/- Lemmas. -/
import Derived.Test.YtepbpdipenedhaaGreatDoorM16
namespace Go.Proofs.YtepbpdipenedhaaGreatDoor
open Go.RowKit
open Go.RowKit
open Go.RowKit
end Go.Proofs.YtepbpdipenedhaaGreatDoor

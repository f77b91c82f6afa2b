/- Lemmas. -/
import Derived.Test.YtcecbdeamjigiaaGreatDoorH24
namespace Go.Proofs.YtcecbdeamjigiaaGreatDoor
open Go.RowKit
open Go.RowKit
open Go.RowKit
open Go.RowKit
open Go.RowKit
end Go.Proofs.YtcecbdeamjigiaaGreatDoor

/- Lemmas. -/
import Derived.Test.YtimcfdnbpkiniaaGreatDoorM16
namespace Go.Proofs.YtimcfdnbpkiniaaGreatDoor
open Go.RowKit
open Go.RowKit
open Go.RowKit
end Go.Proofs.YtimcfdnbpkiniaaGreatDoor

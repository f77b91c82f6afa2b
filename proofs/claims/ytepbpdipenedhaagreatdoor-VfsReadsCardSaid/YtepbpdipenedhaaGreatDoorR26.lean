/- Lemmas. -/
import Derived.Test.YtepbpdipenedhaaGreatDoorR25
namespace Go.Proofs.YtepbpdipenedhaaGreatDoor
open Go.RowKit
variable{M:Nat->Nd}
end Go.Proofs.YtepbpdipenedhaaGreatDoor
namespace Go.Proofs.YtepbpdipenedhaaGreatDoor
open Go.RowKit
variable{M:Nat->Nd}
theorem abC (hF:mK M)(i:Nat):∀k,kI M k i<=24*k:=by
 intro k;induction k with
 |zero=>exact aI _
 |succ k ih=>
  show kI M k i+rX (M k).E i<=_;have h:rX (M k).E i<=(M k).E.length:=List.countP_le_length;have z:=hF.len k;omega
theorem Yr (G:eo M)(hF:mK M){j:Nat}(h:(M j).K≠0):1<=(M j).L/\(M j).L<=100000:=by
 have U:=G.rng h;have J:=G.links j U;have V:=abC hF j 32;rcases G.kind j with z|z|z
 ·rw[z] at h;exact absurd rfl h
 ·have :=J.1 z.1;omega
 ·have :=J.2 z.1;omega
end Go.Proofs.YtepbpdipenedhaaGreatDoor

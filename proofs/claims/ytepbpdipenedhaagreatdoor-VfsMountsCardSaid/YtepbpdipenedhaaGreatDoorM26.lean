/- Lemmas. -/
import Derived.Test.YtepbpdipenedhaaGreatDoorM25
namespace Go.Proofs.YtepbpdipenedhaaGreatDoor
open Go.RowKit
section
variable{M:Nat->Nd}
end
section
variable{M:Nat->Nd}
theorem Tp (hF:nj M)(i:Nat):∀k,lC M k i<=24*k:=by
 intro k;induction k with
 |zero=>exact aH _
 |succ k ih=>
  show lC M k i+tH (M k).E i<=_;have z:tH (M k).E i<=(M k).E.length:=List.countP_le_length;have h:=hF.len k;omega
theorem OT (G:dw M)(hF:nj M){j:Nat}(h:(M j).K≠0):1<=(M j).L/\(M j).L<=100000:=by
 have U:=G.rng h;have J:=G.links j U;have V:=Tp hF j 32;rcases G.kind j with z|z|z
 ·rw[z] at h;exact absurd rfl h
 ·have :=J.1 z.1;omega
 ·have :=J.2 z.1;omega
end
end Go.Proofs.YtepbpdipenedhaaGreatDoor

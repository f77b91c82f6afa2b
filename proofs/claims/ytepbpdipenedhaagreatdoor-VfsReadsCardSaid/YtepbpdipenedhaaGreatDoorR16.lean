/- Lemmas. -/
import Derived.Test.YtepbpdipenedhaaGreatDoorR15
namespace Go.Proofs.YtepbpdipenedhaaGreatDoor
open Go.RowKit
variable{n:bP}
def ahX (n:bP) (k:Nat):Prop:=(0<=n.B.getD k 0/\n.B.getD k 0<=255)/\(0<n.B.getD k 0->n.K≠2/\64*(k:Int)<n.S/\∀j,j<k->n.B.getD j 0≠n.B.getD k 0)
theorem TX (hB:n.B.length=13)(h:bZ n):∀k,k<13->ahX n k:=by
 intro k V;rcases h.2.2 with ⟨hK,W,h2,z,J⟩|⟨hK,W,h2,z,J⟩
 ·have h5:=J k V
  refine⟨by omega,λG=>⟨by omega,?_,λj hj=>h5.2 (by omega) j hj⟩⟩;rcases dG k (dM n.S.toNat) with U|U
  ·unfold dM at U;omega
  ·have SC:dM n.S.toNat<=13:=by unfold dM;omega
   rw[z,tK hB SC,aB (by omega)] at G;omega
 ·have e:n.B.getD k 0=0:=by
   rw[z,aj,bo];split<;>rfl
  exact⟨by omega,λG=>by omega⟩
end Go.Proofs.YtepbpdipenedhaaGreatDoor
namespace Go.Proofs.YtepbpdipenedhaaGreatDoor
open Go.RowKit
variable{n:bP}
end Go.Proofs.YtepbpdipenedhaaGreatDoor
namespace Go.Proofs.YtepbpdipenedhaaGreatDoor
open Go.RowKit
variable{n:bP}
theorem Dh (h:bZ n):∀k,k<n.E.length->(eU n.E k).size<=9223372036854775807:=λk z=>by
 have G:=(((jz h).2.2 (by omega)).2.2.2.2 k z).1;have J:=(nN G).2;rw[lM] at J;omega
end Go.Proofs.YtepbpdipenedhaaGreatDoor

/- Lemmas. -/
import Derived.Test.YtcecbdeamjigiaaGreatDoorH15
namespace Go.Proofs.YtcecbdeamjigiaaGreatDoor
open Go.RowKit
def aek (n:bM) (k:Nat):Prop:=(0<=n.B.getD k 0/\n.B.getD k 0<=255)/\(0<n.B.getD k 0->n.K≠2/\64*(k:Int)<n.S/\∀j,j<k->n.B.getD j 0≠n.B.getD k 0)
theorem Pg {n:bM}(hB:n.B.length=13)(h:bP n):∀k,k<13->aek n k:=by
 intro k hk;rcases h.2.2 with ⟨hK,Z,W,y,J⟩|⟨hK,Z,W,y,J⟩
 ·have U:=J k hk
  refine⟨by omega,λz=>⟨by omega,?_,λj hj=>U.2 (by omega) j hj⟩⟩;rcases dr k (bY n.S.toNat) with G|G
  ·unfold bY at G;omega
  ·have V:bY n.S.toNat<=13:=by unfold bY;omega
   rw[y,n4 hB V,aA (by omega)] at z;omega
 ·have e:n.B.getD k 0=0:=by
   rw[y,aj,aY];split<;>rfl
  exact⟨by omega,λz=>by omega⟩
end Go.Proofs.YtcecbdeamjigiaaGreatDoor
namespace Go.Proofs.YtcecbdeamjigiaaGreatDoor
open Go.RowKit
open Go.RowKit
end Go.Proofs.YtcecbdeamjigiaaGreatDoor

/- Lemmas. -/
import Derived.Test.YtepbpdipenedhaaGreatDoorS15
namespace Go.Proofs.YtepbpdipenedhaaGreatDoor
open Go.RowKit
def adT (n:bN) (k:Nat):Prop:=(0<=n.B.getD k 0/\n.B.getD k 0<=255)/\(0<n.B.getD k 0->n.K≠2/\64*(k:Int)<n.S/\∀j,j<k->n.B.getD j 0≠n.B.getD k 0)
theorem Pg {n:bN}(U:n.B.length=13)(h:bR n):∀k,k<13->adT n k:=by
 intro k hk;rcases h.2.2 with ⟨hK,Z,V,y,J⟩|⟨hK,Z,V,y,J⟩
 ·have h5:=J k hk
  refine⟨by omega,λz=>⟨by omega,?_,λj W=>h5.2 (by omega) j W⟩⟩;rcases dg k (lX n.S.toNat) with G|G
  ·unfold lX at G;omega
  ·have NV:lX n.S.toNat<=13:=by unfold lX;omega
   rw[y,yD U NV,aA (by omega)] at z;omega
 ·have e:n.B.getD k 0=0:=by
   rw[y,aj,bb];split<;>rfl
  exact⟨by omega,λz=>by omega⟩
end Go.Proofs.YtepbpdipenedhaaGreatDoor
namespace Go.Proofs.YtepbpdipenedhaaGreatDoor
open Go.RowKit
open Go.RowKit
end Go.Proofs.YtepbpdipenedhaaGreatDoor

/- Lemmas. -/
import Derived.Test.YtepbpdipenedhaaGreatDoorM15
namespace Go.Proofs.YtepbpdipenedhaaGreatDoor
open Go.RowKit
section
variable{n:bT}
def ajg (n:bT) (k:Nat):Prop:=(0<=n.B.getD k 0/\n.B.getD k 0<=255)/\(0<n.B.getD k 0->n.K≠2/\64*(k:Int)<n.S/\∀j,j<k->n.B.getD j 0≠n.B.getD k 0)
theorem Vo (W:n.B.length=13)(h:cm n):∀k,k<13->ajg n k:=by
 intro k V;rcases h.2.2 with ⟨hK,h1,h2,z,U⟩|⟨hK,h1,h2,z,U⟩
 ·have h5:=U k V
  refine⟨by omega,λJ=>⟨by omega,?_,λj hj=>h5.2 (by omega) j hj⟩⟩;rcases dE k (bL n.S.toNat) with G|G
  ·unfold bL at G;omega
  ·have Ud:bL n.S.toNat<=13:=by unfold bL;omega
   rw[z,qo W Ud,aA] at J;omega
 ·have e:n.B.getD k 0=0:=by
   rw[z,aj,bj];split<;>rfl
  exact⟨by omega,λJ=>by omega⟩
end
section
variable{n:bT}
end
section
variable{n:bT}
theorem yr (h:cm n):∀k,k<n.E.length->(eX n.E k).size<=9223372036854775807:=λk z=>by
 have J:=(((jQ h).2.2 (by omega)).2.2.2.2 k z).1;have G:=(oO J).2;rw[mA] at G;omega
end
end Go.Proofs.YtepbpdipenedhaaGreatDoor

/- Lemmas. -/
import Derived.Test.YtimcfdnbpkiniaaGreatDoorM15
namespace Go.Proofs.YtimcfdnbpkiniaaGreatDoor
open Go.RowKit
section
variable{n:bT}
def ajl (n:bT) (k:Nat):Prop:=(0<=n.B.getD k 0/\n.B.getD k 0<=255)/\(0<n.B.getD k 0->n.K≠2/\64*(k:Int)<n.S/\∀j,j<k->n.B.getD j 0≠n.B.getD k 0)
theorem Vn (hB:n.B.length=13)(h:ct n):∀k,k<13->ajl n k:=by
 intro k W;rcases h.2.2 with ⟨hK,h1,h2,z,G⟩|⟨hK,h1,h2,z,G⟩
 ·have h5:=G k W
  refine⟨by omega,λJ=>⟨by omega,?_,λj hj=>h5.2 (by omega) j hj⟩⟩;rcases dE k (bL n.S.toNat) with U|U
  ·unfold bL at U;omega
  ·have V:bL n.S.toNat<=13:=by unfold bL;omega
   rw[z,qo hB V,aA] at J;omega
 ·have e:n.B.getD k 0=0:=by
   rw[z,aj,bj];split<;>rfl
  exact⟨by omega,λJ=>by omega⟩
end
section
variable{n:bT}
end
section
variable{n:bT}
theorem yo (h:ct n):∀k,k<n.E.length->(eX n.E k).size<=9223372036854775807:=λk G=>by
 have z:=(((jM h).2.2 (by omega)).2.2.2.2 k G).1;have J:=(oN z).2;rw[mB] at J;omega
end
end Go.Proofs.YtimcfdnbpkiniaaGreatDoor

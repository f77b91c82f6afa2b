/- Lemmas. -/
import Derived.Test.YtimcfdnbpkiniaaGreatDoorM15
namespace Go.Proofs.YtimcfdnbpkiniaaGreatDoor
open Go.RowKit
section
theorem yb {n:bS}(h:cm n):∀k,k<n.E.length->(eY n.E k).size<=9223372036854775807:=λk G=>by
 have z:=(((jJ h).2.2 (by omega)).2.2.2.2 k G).1;have J:=(oz z).2;rw[mh] at J;omega
end
section

end
end Go.Proofs.YtimcfdnbpkiniaaGreatDoor

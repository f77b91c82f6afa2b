/-
  Layer 6 (fmt1): Read. Layer 5 (palloc): Take. Layer 6 (fmt1): what Lay puts, plain; copying numbers. Layer 6 (fmt1), plain: what is laid is read again.
-/
import Derived.Test.YtlfkodlnhfdgjaaG01
import Derived.Test.YtlfkodlnhfdgjaaG03
import Derived.Test.YtlfkodlnhfdgjaaG05
import Derived.Deep.DeepCutAuto
import Derived.Test.YtlfkodlnhfdgjaaG04
import Derived.Laws.IdiomCopy
namespace Go.Proofs.Ytlfkodlnhfdgjaa
open Go.RowKit

end Go.Proofs.Ytlfkodlnhfdgjaa

namespace Go.Proofs.Ytlfkodlnhfdgjaa
open Go.RowKit

end Go.Proofs.Ytlfkodlnhfdgjaa

namespace Go.Proofs.Ytlfkodlnhfdgjaa
open Go.RowKit

end Go.Proofs.Ytlfkodlnhfdgjaa

namespace Go.Proofs.Ytlfkodlnhfdgjaa
open Go.RowKit

end Go.Proofs.Ytlfkodlnhfdgjaa

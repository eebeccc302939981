/-
  The contract of the document's Mul.
-/
import Derived.Test.YtennhoalgclhjabRefMul
import Derived.Test.YtennhoalgclhjabOut
namespace Go.Proofs.Ytennhoalgclhjab
open Go.RowKit

end Go.Proofs.Ytennhoalgclhjab

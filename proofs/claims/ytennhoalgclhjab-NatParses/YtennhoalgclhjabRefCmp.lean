/-
  The contract of the document's Cmp: it tells what nat.Cmp tells.
-/
import Derived.Test.YtennhoalgclhjabIn
namespace Go.Proofs.Ytennhoalgclhjab
open Go.RowKit

end Go.Proofs.Ytennhoalgclhjab

/-
  The contract of the document's Cmp: it tells what nat.Cmp tells.
-/
import Derived.Test.YtnioobiodiofiabIn
namespace Go.Proofs.Ytnioobiodiofiab
open Go.RowKit

end Go.Proofs.Ytnioobiodiofiab

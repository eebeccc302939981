/-
  Contracts of the document's Rest and Gcd.
-/
import Derived.Test.YtppfkmbclpebkabEucA
import Derived.Test.YtppfkmbclpebkabRefDivA
import Derived.Deep.LoopGhost
namespace Go.Proofs.Ytppfkmbclpebkab
open Go.RowKit

end Go.Proofs.Ytppfkmbclpebkab

/-
  Contracts of the document's Rest and Gcd.
-/
import Derived.Test.YtambpcgdaogojabGreatEucA
import Derived.Test.YtambpcgdaogojabGreatRefB
import Derived.Deep.LoopGhost
namespace Go.Proofs.YtambpcgdaogojabGreat
open Go.RowKit

end Go.Proofs.YtambpcgdaogojabGreat

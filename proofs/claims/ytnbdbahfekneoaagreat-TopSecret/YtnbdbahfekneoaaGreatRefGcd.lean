/-
  Contracts of the document's Rest and Gcd.
-/
import Derived.Test.YtnbdbahfekneoaaGreatEucA
import Derived.Test.YtnbdbahfekneoaaGreatRefB
import Derived.Deep.LoopGhost
namespace Go.Proofs.YtnbdbahfekneoaaGreat
open Go.RowKit

end Go.Proofs.YtnbdbahfekneoaaGreat

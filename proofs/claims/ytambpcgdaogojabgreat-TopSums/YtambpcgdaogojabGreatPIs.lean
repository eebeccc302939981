/-
  Contracts of the program's own Is and Least.
-/
import Derived.Test.YtambpcgdaogojabGreatPLeast
namespace Go.Proofs.YtambpcgdaogojabGreat
open Go.RowKit

end Go.Proofs.YtambpcgdaogojabGreat

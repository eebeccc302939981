/-
  Contracts of the program's own Is and Least.
-/
import Derived.Test.YtppfkmbclpebkaaGreatPLeast
namespace Go.Proofs.YtppfkmbclpebkaaGreat
open Go.RowKit

end Go.Proofs.YtppfkmbclpebkaaGreat

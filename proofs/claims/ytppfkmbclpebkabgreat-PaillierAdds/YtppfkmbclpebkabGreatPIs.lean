/-
  Contracts of the program's own Is and Least.
-/
import Derived.Test.YtppfkmbclpebkabGreatPLeast
namespace Go.Proofs.YtppfkmbclpebkabGreat
open Go.RowKit

end Go.Proofs.YtppfkmbclpebkabGreat

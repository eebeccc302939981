/-
  Contracts of the program's own Is and Least.
-/
import Derived.Test.YtppfkmbclpebkabPLeast
namespace Go.Proofs.Ytppfkmbclpebkab
open Go.RowKit

end Go.Proofs.Ytppfkmbclpebkab

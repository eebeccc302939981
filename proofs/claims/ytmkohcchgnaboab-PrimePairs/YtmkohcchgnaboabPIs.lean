/-
  Contracts of the program's own Is and Least.
-/
import Derived.Test.YtmkohcchgnaboabPLeast
namespace Go.Proofs.Ytmkohcchgnaboab
open Go.RowKit

end Go.Proofs.Ytmkohcchgnaboab

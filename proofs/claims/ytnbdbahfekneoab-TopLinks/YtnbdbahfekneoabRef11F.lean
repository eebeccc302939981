/-
  The document's end of a link: the contract of Out.
-/
import Derived.Test.YtnbdbahfekneoabR11A
import Derived.Deep.Cut
import Derived.Deep.DeepCutAuto
namespace Go.Proofs.Ytnbdbahfekneoab
open Go.RowKit

end Go.Proofs.Ytnbdbahfekneoab

/-
  The document's reader: Number and Int.
-/
import Derived.Test.YtfnhaenoaneoeabRef9B
import Derived.Test.YtfnhaenoaneoeabC9Rel
namespace Go.Proofs.Ytfnhaenoaneoeab
open Go.RowKit

end Go.Proofs.Ytfnhaenoaneoeab

/-
  The document's reader: Bytes.
-/
import Derived.Test.YtfnhaenoaneoeabRef9C
import Derived.Test.YtfnhaenoaneoeabC9Own
import Derived.Test.YtfnhaenoaneoeabC9Back
import Derived.Test.YtfnhaenoaneoeabTapeP
import Derived.Deep.RegionHeld3
namespace Go.Proofs.Ytfnhaenoaneoeab
open Go.RowKit

end Go.Proofs.Ytfnhaenoaneoeab

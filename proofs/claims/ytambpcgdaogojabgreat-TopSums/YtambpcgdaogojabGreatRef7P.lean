/-
  The contract of the document's Pack.
-/
import Derived.Test.YtambpcgdaogojabGreatRef7A
import Derived.Test.YtambpcgdaogojabGreatModR
import Derived.Deep.RegionWith
import Derived.BigRegion
namespace Go.Proofs.YtambpcgdaogojabGreat
open Go.RowKit

end Go.Proofs.YtambpcgdaogojabGreat

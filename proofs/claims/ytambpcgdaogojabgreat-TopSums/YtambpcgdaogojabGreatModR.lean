/-
  The contract of the document's Sub of whole numbers.
  The contract of the document's Floor.
-/
import Derived.Test.YtambpcgdaogojabGreatModA
import Derived.Test.YtambpcgdaogojabGreatRefA
import Derived.Deep.RegionWith
import Derived.BigRegion
import Derived.Test.YtambpcgdaogojabGreatRefB
namespace Go.Proofs.YtambpcgdaogojabGreat
open Go.RowKit

end Go.Proofs.YtambpcgdaogojabGreat

namespace Go.Proofs.YtambpcgdaogojabGreat
open Go.RowKit

end Go.Proofs.YtambpcgdaogojabGreat

namespace Go.Proofs.YtambpcgdaogojabGreat
open Go.RowKit

end Go.Proofs.YtambpcgdaogojabGreat

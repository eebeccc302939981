/-
  Contracts of the document's May, half, Encode, Decode and power (fixenc).
  The contract of the document's Pack.
-/
import Derived.Test.YtambpcgdaogojabGreatF7A
import Derived.Test.YtambpcgdaogojabGreatRefB
import Derived.Test.YtambpcgdaogojabGreatRefA
import Derived.Test.YtambpcgdaogojabGreatNatA
import Derived.Test.YtambpcgdaogojabGreatModA
import Derived.Test.YtambpcgdaogojabGreatModR
import Derived.Deep.RegionWith
import Derived.BigRegion
namespace Go.Proofs.YtambpcgdaogojabGreat
open Go.RowKit

end Go.Proofs.YtambpcgdaogojabGreat

namespace Go.Proofs.YtambpcgdaogojabGreat
open Go.RowKit

end Go.Proofs.YtambpcgdaogojabGreat

/-
  The contract of stage 7's few, for one list of limbs up to four.
-/
import Derived.Test.YtambpcgdaogojabGreatNatA
namespace Go.Proofs.YtambpcgdaogojabGreat
open Go.RowKit

end Go.Proofs.YtambpcgdaogojabGreat

/-
  Contracts of the document's May, half, Encode, Decode and power (fixenc).
-/
import Derived.Test.YtambpcgdaogojabGreatF7Ans
import Derived.Test.YtambpcgdaogojabGreatRefMovesA
import Derived.Test.YtambpcgdaogojabGreatRefA
import Derived.Test.YtambpcgdaogojabGreatNatA
import Derived.Test.YtambpcgdaogojabGreatModA
namespace Go.Proofs.YtambpcgdaogojabGreat
open Go.RowKit

end Go.Proofs.YtambpcgdaogojabGreat

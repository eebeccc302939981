/-
  The contract of the document's Draw.
-/
import Derived.Test.YtambpcgdaogojabGreatP6Draw
import Derived.Test.YtambpcgdaogojabGreatRef6B
import Derived.Test.YtambpcgdaogojabGreatTapeH
namespace Go.Proofs.YtambpcgdaogojabGreat
open Go.RowKit

end Go.Proofs.YtambpcgdaogojabGreat

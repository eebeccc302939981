/-
  Contracts of the document's Public, Encrypt, Add, Plain, Scale and Again.
-/
import Derived.Test.YtambpcgdaogojabGreatRef6A
namespace Go.Proofs.YtambpcgdaogojabGreat
open Go.RowKit

end Go.Proofs.YtambpcgdaogojabGreat

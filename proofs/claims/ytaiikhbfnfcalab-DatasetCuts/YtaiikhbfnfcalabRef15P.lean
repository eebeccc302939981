/-
  The document's Take: a bin more. Written by mk/r15take.py.
-/
import Derived.Test.YtaiikhbfnfcalabR15K
import Derived.Test.YtaiikhbfnfcalabR15G
namespace Go.Proofs.Ytaiikhbfnfcalab
open Go.RowKit

end Go.Proofs.Ytaiikhbfnfcalab

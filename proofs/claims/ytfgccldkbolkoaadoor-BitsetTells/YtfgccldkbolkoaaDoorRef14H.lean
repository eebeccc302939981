/-
  The document's sets: both, one number. Written by mk/r14both.py.
-/
import Derived.Test.YtfgccldkbolkoaaDoorRef14G
namespace Go.Proofs.YtfgccldkbolkoaaDoor
open Go.RowKit

end Go.Proofs.YtfgccldkbolkoaaDoor

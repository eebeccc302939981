/-
  The document's sets: both, its statements. Written by mk/r14both.py.
-/
import Derived.Test.YtfgccldkbolkoaaDoorRef14F
namespace Go.Proofs.YtfgccldkbolkoaaDoor
open Go.RowKit

end Go.Proofs.YtfgccldkbolkoaaDoor

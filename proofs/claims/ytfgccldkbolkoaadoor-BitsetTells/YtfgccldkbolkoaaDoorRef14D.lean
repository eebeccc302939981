/-
  The document's sets: Of. Written by mk/r14of.py.
-/
import Derived.Test.YtfgccldkbolkoaaDoorRef14C
namespace Go.Proofs.YtfgccldkbolkoaaDoor
open Go.RowKit

end Go.Proofs.YtfgccldkbolkoaaDoor

/-
  The document's sets: And, Or, Minus. Written by mk/r14both.py.
-/
import Derived.Test.YtfgccldkbolkoaaDoorRef14I
namespace Go.Proofs.YtfgccldkbolkoaaDoor
open Go.RowKit

end Go.Proofs.YtfgccldkbolkoaaDoor

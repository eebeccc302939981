/-
  The program's sets: what stage 14's laws ask.
-/
import Derived.Test.YtfgccldkbolkoaaDoorP14O
import Derived.Test.YtfgccldkbolkoaaDoorX14C
import Derived.Test.YtfgccldkbolkoaaDoorX14N
import Derived.Test.YtfgccldkbolkoaaDoorX14F
import Derived.Test.YtfgccldkbolkoaaDoorX14O
namespace Go.Proofs.YtfgccldkbolkoaaDoor
open Go.RowKit

theorem rgt_ok14 : RgtOk14 := fun N a l c ws w hN h => x14right_any N a l c ws w hN h
theorem cnt_ok14 : CntOk14 := fun N a l c ws w hN h => x14count_any N a l c ws w hN h
theorem has_ok14 : HasOk14 := fun N a l c ws i w hN _ h => x14has_any N a l c ws i w hN h
theorem of_ok14 : OfOk14 := fun n a len cap xs w _ hL hlen => x14of_any n a len cap xs w hL hlen
end Go.Proofs.YtfgccldkbolkoaaDoor

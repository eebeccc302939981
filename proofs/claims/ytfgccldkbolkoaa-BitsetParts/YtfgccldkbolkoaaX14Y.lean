/-
  The program's sets: what stage 14's laws ask.
-/
import Derived.Test.YtfgccldkbolkoaaP14O
import Derived.Test.YtfgccldkbolkoaaX14C
import Derived.Test.YtfgccldkbolkoaaX14N
import Derived.Test.YtfgccldkbolkoaaX14F
import Derived.Test.YtfgccldkbolkoaaX14O
namespace Go.Proofs.Ytfgccldkbolkoaa
open Go.RowKit

theorem rgt_ok14 : RgtOk14 := fun N a l c ws w hN h => x14right_any N a l c ws w hN h
theorem cnt_ok14 : CntOk14 := fun N a l c ws w hN h => x14count_any N a l c ws w hN h
theorem new_ok14 : NewOk14 := fun n w _ => x14new_any n w
theorem ful_ok14 : FulOk14 := fun n w _ => x14full_any n w
theorem of_ok14 : OfOk14 := fun n a len cap xs w _ hL hlen => x14of_any n a len cap xs w hL hlen
end Go.Proofs.Ytfgccldkbolkoaa

/-
  The program's sets: what stage 14's laws ask.
-/
import Derived.Test.YtaiikhbfnfcalabR14F
import Derived.Test.YtaiikhbfnfcalabBX14B
import Derived.Test.YtaiikhbfnfcalabBX14A
namespace Go.Proofs.Ytaiikhbfnfcalab
open Go.RowKit

theorem rgt_ok14 : RgtOk14 := fun N a l c ws w hN h => x14right_any N a l c ws w hN h
theorem cnt_ok14 : CntOk14 := fun N a l c ws w hN h => x14count_any N a l c ws w hN h
theorem of_ok14 : OfOk14 := fun n a len cap xs w _ hL hlen => x14of_any n a len cap xs w hL hlen
end Go.Proofs.Ytaiikhbfnfcalab

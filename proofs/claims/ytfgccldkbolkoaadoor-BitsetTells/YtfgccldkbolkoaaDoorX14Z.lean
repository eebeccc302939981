/-
  The program's sets: what stage 14's laws ask of List.
-/
import Derived.Test.YtfgccldkbolkoaaDoorP14O
import Derived.Test.YtfgccldkbolkoaaDoorX14L
namespace Go.Proofs.YtfgccldkbolkoaaDoor
open Go.RowKit

theorem lst_ok14 : LstOk14 TzTab := fun N a l c ws w hN h hT => x14list_any N a l c ws w hN h hT
theorem tab_ok14 : ∀ w w' : World, TzTab w → Below w.heap.size w w' → TzTab w' := fun _ _ h hb => h.below hb
end Go.Proofs.YtfgccldkbolkoaaDoor

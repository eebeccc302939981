/-
  The program's sets: what stage 14's laws ask of And, Or, Minus.
-/
import Derived.Test.YtfgccldkbolkoaaP14O
import Derived.Test.YtfgccldkbolkoaaX14J
namespace Go.Proofs.Ytfgccldkbolkoaa
open Go.RowKit

theorem and_ok14 : AndOk14 := fun M K a b la ca lb cb ws vs w hM hK hx hy => x14and_any M K a b la ca lb cb ws vs w hM hK hx hy
theorem or_ok14 : OrOk14 := fun M K a b la ca lb cb ws vs w hM hK hx hy => x14or_any M K a b la ca lb cb ws vs w hM hK hx hy
theorem min_ok14 : MinOk14 := fun M K a b la ca lb cb ws vs w hM hK hx hy => x14minus_any M K a b la ca lb cb ws vs w hM hK hx hy
end Go.Proofs.Ytfgccldkbolkoaa

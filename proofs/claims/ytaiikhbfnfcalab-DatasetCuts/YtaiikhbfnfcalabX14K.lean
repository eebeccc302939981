/-
  The program's sets: what stage 14's laws ask of And, Or, Minus.
-/
import Derived.Test.YtaiikhbfnfcalabR14F
import Derived.Test.YtaiikhbfnfcalabX14J
namespace Go.Proofs.Ytaiikhbfnfcalab
open Go.RowKit

theorem min_ok14 : MinOk14 := fun M K a b la ca lb cb ws vs w hM hK hx hy => x14minus_any M K a b la ca lb cb ws vs w hM hK hx hy
end Go.Proofs.Ytaiikhbfnfcalab

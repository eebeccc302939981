/-
  The names that the laws ask of package dataset.
-/
import Derived.Test.YtaiikhbfnfcalabBX15T
import Derived.Test.YtaiikhbfnfcalabBX15J
import Derived.Test.YtaiikhbfnfcalabX15E
import Derived.Test.YtaiikhbfnfcalabB15O
namespace Go.Proofs.Ytaiikhbfnfcalab
open Go.RowKit

theorem rgt_ok15 : RgtOk15 := fun v t w h => x15right_any v t w h
theorem ali_ok15 : AliOk15 := fun a l c Ls w h => x15align_any a l c Ls w h
theorem lef_ok15 : LefOk15 := fun v t col cut w hc _ h => x15left_any v t col cut w hc h
end Go.Proofs.Ytaiikhbfnfcalab

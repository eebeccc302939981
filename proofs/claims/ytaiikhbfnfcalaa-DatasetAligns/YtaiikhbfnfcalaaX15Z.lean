/-
  The names that the laws ask of package dataset.
-/
import Derived.Test.YtaiikhbfnfcalaaBX15T
import Derived.Test.YtaiikhbfnfcalaaBX15J
import Derived.Test.YtaiikhbfnfcalaaX15E
import Derived.Test.YtaiikhbfnfcalaaB15O
namespace Go.Proofs.Ytaiikhbfnfcalaa
open Go.RowKit

theorem rgt_ok15 : RgtOk15 := fun v t w h => x15right_any v t w h
theorem ali_ok15 : AliOk15 := fun a l c Ls w h => x15align_any a l c Ls w h
theorem tak_ok15 : TakOk15 := fun v t p l c xs w ht hL => x15take_any v t p l c xs w ht hL
theorem joi_ok15 : JoiOk15 := fun a l c ts w h => x15join_any a l c ts w h
theorem lef_ok15 : LefOk15 := fun v t col cut w hc _ h => x15left_any v t col cut w hc h
end Go.Proofs.Ytaiikhbfnfcalaa

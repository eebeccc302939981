/-
  What stage 16's laws ask of the program's functions: Right, Grad. Written by mk/x16.py.
-/
import Derived.Test.YtpeefhkadeoioaaP16O
import Derived.Test.YtpeefhkadeoioaaX16B
namespace Go.Proofs.Ytpeefhkadeoioaa
open Go.RowKit

theorem rgt_ok16 : RgtOk16 := fun c w _ => x16right_any c w
theorem grd_ok16 : GrdOk16 := fun c s l w _ _ _ => x16grad_any c s l w
end Go.Proofs.Ytpeefhkadeoioaa

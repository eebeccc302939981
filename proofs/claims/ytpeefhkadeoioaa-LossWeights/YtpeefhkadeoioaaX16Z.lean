/-
  What stage 16's laws ask of the program's functions: Weight. Written by mk/x16.py.
-/
import Derived.Test.YtpeefhkadeoioaaP16O
import Derived.Test.YtpeefhkadeoioaaX16C
namespace Go.Proofs.Ytpeefhkadeoioaa
open Go.RowKit

theorem wgt_ok16 : WgtOk16 := fun c G H w _ _ _ => x16weight_any c G H w
end Go.Proofs.Ytpeefhkadeoioaa

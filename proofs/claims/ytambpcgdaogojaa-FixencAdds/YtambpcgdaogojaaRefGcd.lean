/-
  Contracts of the document's Rest and Gcd.
-/
import Derived.Test.YtambpcgdaogojaaEucA
import Derived.Test.YtambpcgdaogojaaRefDivA
import Derived.Deep.LoopGhost
namespace Go.Proofs.Ytambpcgdaogojaa
open Go.RowKit

theorem refRest_any (a b : Option Addr) (la ca lb cb : Nat) (zs ys : List Int) (w : World) (h : Nums w a la ca zs) (h' : Nums w b lb cb ys) :
    Calls Try.prog 24 #[.slice a la ca, .slice b lb cb] w fun e w' => ∃ ra rn rc rs qs err, e = .returned (.slice ra rn rc) ∧ Nums w' ra rn rc rs ∧ ResDiv zs ys qs rs err ∧ Below w.heap.size w w' := by
  go_enter Try.func24, Try.ntmps24
  go_wp2_with fail
  refine (refDiv_any _ _ _ _ _ _ _ _ _ h h').mono ?_
  rintro e w1 ⟨qa, qn, qc, qs, ra, rn, rc, rs, err, rfl, hQ, hR, hD, hb⟩
  have HD : Hid (ResDiv zs ys qs rs err) := hD
  clear hD
  go_wp2_with fail
  go_ret
  exact ⟨_, _, _, _, _, _, rfl, hR, HD.out, hb⟩

end Go.Proofs.Ytambpcgdaogojaa

/-
  Contracts of the document's May, unit, Square, Valid, plain, shown and hidden.
  Contracts of the document's Public, Encrypt, Add, Plain, Scale and Again.
-/
import Derived.Test.YtnbdbahfekneoaaGreatP6A
import Derived.Test.YtnbdbahfekneoaaGreatRefGcd
import Derived.Test.YtnbdbahfekneoaaGreatMontC
import Derived.Test.YtnbdbahfekneoaaGreatRefA
import Derived.Test.YtnbdbahfekneoaaGreatNatA
namespace Go.Proofs.YtnbdbahfekneoaaGreat
open Go.RowKit

theorem cmp_nv {xs ys : List Int} (hx : Digs 18446744073709551616 xs) (hy : Digs 18446744073709551616 ys) (rx : rightB xs = true) (ry : rightB ys = true) : cmpN xs ys = cmpZ (nv xs : Int) (nv ys : Int) := by
  unfold cmpN; rw [rx, ry, nv_val hx, nv_val hy]; rfl
theorem cmpZ_ge {x y : Nat} : (0 : Int) ≤ cmpZ (x : Int) (y : Int) ↔ y ≤ x := by
  unfold cmpZ
  split
  · constructor
    · intro h; omega
    · intro h; omega
  · split
    · constructor
      · intro _; omega
      · intro _; decide
    · constructor
      · intro _; omega
      · intro _; decide
theorem cmpZ_nought {x y : Nat} : cmpZ (x : Int) (y : Int) = 0 ↔ x = y := by
  unfold cmpZ
  split
  · constructor
    · intro h; cases h
    · intro h; omega
  · split
    · constructor
      · intro h; cases h
      · intro h; omega
    · constructor
      · intro _; omega
      · intro _; rfl
theorem isN_one : IsN (ofZ 1) 1 := ⟨fun y hy => by simp [ofZ] at hy; subst hy; decide, by decide, by decide⟩

end Go.Proofs.YtnbdbahfekneoaaGreat

namespace Go.Proofs.YtnbdbahfekneoaaGreat
open Go.RowKit

end Go.Proofs.YtnbdbahfekneoaaGreat

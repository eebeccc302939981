/-
  The plain reckoning of the products' law: a product with a sum is the sum of the products.
-/
import Derived.Test.YtennhoalgclhjacMul
namespace Go.Proofs.Ytennhoalgclhjac
open Go.RowKit

theorem spreads_same {aas bs cs xs ss ts us ps : List Int} (hx : Res2 aas bs (val 18446744073709551616 aas * val 18446744073709551616 bs) xs 0) (hs : Res2 bs cs (val 18446744073709551616 bs + val 18446744073709551616 cs) ss 0)
    (ht : Res2 aas ss (val 18446744073709551616 aas * val 18446744073709551616 ss) ts 0) (hu : Res2 aas cs (val 18446744073709551616 aas * val 18446744073709551616 cs) us 0) (hp : Res2 xs us (val 18446744073709551616 xs + val 18446744073709551616 us) ps 0) : ts = ps := by
  obtain ⟨-, -, -, -, -, x1⟩ := hx.ok
  obtain ⟨-, -, -, -, -, s1⟩ := hs.ok
  obtain ⟨-, -, d1, t1, -, e1⟩ := ht.ok
  obtain ⟨-, -, -, -, -, u1⟩ := hu.ok
  obtain ⟨-, -, d2, t2, -, p1⟩ := hp.ok
  refine val_inj (by decide) d1 d2 t1 t2 ?_
  rw [e1, s1, p1, x1, u1, Int.mul_add]
end Go.Proofs.Ytennhoalgclhjac

/-
  The contracts of a ring's reduced and product.
-/
import Derived.Test.YtchmlfjjgehbkaaMontA
import Derived.BigRegion
namespace Go.Proofs.Ytchmlfjjgehbkaa
open Go.RowKit

theorem red_start {xs : List Int} {la k : Nat} (hl : xs.length = la) (h : la ≤ 2 * k + 1) : (over xs (noughts (2 * k + 1)) la).length = 2 * k + 1 ∧ vs 18446744073709551616 (fun j => (over xs (noughts (2 * k + 1)) la).getD j 0) (2 * k + 1) = val 18446744073709551616 xs := by
  have e : (over xs (noughts (2 * k + 1)) la).length = 2 * k + 1 := by rw [over_noughts]; simp [hl]; omega
  refine ⟨e, ?_⟩
  rw [vs_all _ _ (by omega), over_noughts, val_pad]

end Go.Proofs.Ytchmlfjjgehbkaa

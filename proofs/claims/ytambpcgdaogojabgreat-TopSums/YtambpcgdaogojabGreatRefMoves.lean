/-
  Contracts of the document's own moves of bits: by a power of 2, times or divided.
-/
import Derived.Test.YtambpcgdaogojabGreatRefDivA
import Derived.Test.YtambpcgdaogojabGreatShift
namespace Go.Proofs.YtambpcgdaogojabGreat
open Go.RowKit

theorem power_val (whole : Nat) (y : Int) : val 65536 ((noughts (whole + 1)).set whole y) = 65536 ^ whole * y := by
  have hz : ∀ j, (noughts (whole + 1)).getD j 0 = 0 := fun j => by simp only [noughts, List.getD, List.getElem?_replicate]; split <;> rfl
  have e := vs_set (B := 65536) (M := noughts (whole + 1)) (j := whole) (n := whole + 1) (v := y) (by omega) (by rw [length_noughts]; omega)
  rw [vs_all _ _ (by rw [List.length_set, length_noughts]; omega), vs_zero _ (fun i _ => hz i), hz, Int.sub_zero, Int.zero_add] at e
  exact e

theorem pow16 (whole part : Nat) : (2 : Int) ^ (16 * whole + part) = 65536 ^ whole * 2 ^ part := by rw [Int.pow_add, Int.pow_mul]; congr 1

end Go.Proofs.YtambpcgdaogojabGreat

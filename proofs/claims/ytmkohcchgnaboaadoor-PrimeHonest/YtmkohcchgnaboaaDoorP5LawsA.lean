/-
  Walks of stage 5's laws on primes and least divisors, from the contracts of the program's own functions.
-/
import Derived.Test.YtmkohcchgnaboaaDoorRefPrime
namespace Go.Proofs.YtmkohcchgnaboaaDoor
open Go.RowKit

/-- The program tells of a number whether it is a prime. -/
def IsOk : Prop := ∀ (n : Nat) (w : World), n < 18446744073709551616 → Calls Tryd.prog 6 #[.int .u64 (n : Int)] w fun e w' => e = .returned (.tuple #[.bool (isB n), .int .i64 (isE n)]) ∧ Below w.heap.size w w'

theorem least_two {d : Nat} {err : Int} (h : ResLeast 2 d err) : d = 2 := by
  unfold ResLeast at h
  rw [if_pos (by decide)] at h
  refine h.2.unique (.inr ⟨rfl, fun j h1 h2 => ?_⟩)
  have := Nat.mul_le_mul h1 h1
  omega

end Go.Proofs.YtmkohcchgnaboaaDoor

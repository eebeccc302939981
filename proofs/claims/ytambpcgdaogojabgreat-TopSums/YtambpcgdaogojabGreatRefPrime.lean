/-
  Contracts of the document's least, Is and Least.
-/
import Derived.Test.YtambpcgdaogojabGreatP5Math
namespace Go.Proofs.YtambpcgdaogojabGreat
open Go.RowKit

/-- What is told of whether n is a prime, and the error. -/
def isB (n : Nat) : Bool := decide (n < 1099511627776) && prB n
def isE (n : Nat) : Int := if n < 1099511627776 then 0 else 1
/-- What is told of the least divisor of n. -/
def ResLeast (n : Nat) (d : Nat) (err : Int) : Prop := if 2 ≤ n ∧ n < 1099511627776 then err = 0 ∧ LeastOf n d else d = 0 ∧ err = 1

theorem ResLeast.unique {n d c : Nat} {e f : Int} (h : ResLeast n d e) (h' : ResLeast n c f) : d = c ∧ e = f := by
  unfold ResLeast at h h'
  split at h
  · rename_i hc
    rw [if_pos hc] at h'
    exact ⟨h.2.unique h'.2, h.1.trans h'.1.symm⟩
  · rename_i hc
    rw [if_neg hc] at h'
    exact ⟨h.1.trans h'.1.symm, h.2.trans h'.2.symm⟩

theorem sq_bd {k n : Nat} (h : k * k ≤ n) (hn : n < 1099511627776) : k < 1048576 := by
  rcases Nat.lt_or_ge k 1048576 with h' | h'
  · exact h'
  · have := Nat.mul_le_mul h' h'
    omega

theorem is_far {n : Nat} (h : ¬ n < 1099511627776) : isB n = false ∧ isE n = 1 := by simp [isB, isE, h]
theorem is_near {n : Nat} (h : n < 1099511627776) : isB n = prB n ∧ isE n = 0 := by simp [isB, isE, h]

end Go.Proofs.YtambpcgdaogojabGreat

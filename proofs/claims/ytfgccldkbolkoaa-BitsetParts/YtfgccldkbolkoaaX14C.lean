/-
  The program's sets: Has.
-/
import Derived.Test.YtfgccldkbolkoaaX14B
namespace Go.Proofs.Ytfgccldkbolkoaa
open Go.RowKit

theorem and_one14 {e : Nat} (h : e < 18446744073709551616) : bits .and .u64 (e : Int) 1 = ((e % 2 : Nat) : Int) := by
  have h1 := bits_and_u64_nat e 1 h (by omega)
  rw [Nat.and_one_is_mod] at h1
  exact h1
end Go.Proofs.Ytfgccldkbolkoaa

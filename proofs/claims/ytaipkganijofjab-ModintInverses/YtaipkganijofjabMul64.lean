/-
  What math/bits.Mul64 answers here: the two halves of the product of any two words.
-/
import Derived.Test.YtaipkganijofjabCarry
import Derived.Shelf.Bits.Mul64
namespace Go.Proofs.Ytaipkganijofjab
open Go.RowKit Go.Shelf

def mul64_ren : Go.Shelf.Ren := ⟨fun | 264 => 106 | n => n, fun | 53 => 29 | 46 => 104 | n => n, fun n => n⟩
theorem mul64_lays : Lays.n264 Try.prog mul64_ren :=
  { mixed := by kernel_rfl, f264 := Try.func106.trans (by kernel_rfl), t46 := Try.underlying104, a46 := Try.isAgg104, z46 := Try.sizeOf104, v46 := Try.zeroValue104,
    t53 := Try.underlying29, a53 := Try.isAgg29, z53 := Try.sizeOf29, v53 := Try.zeroValue29 }
theorem mul64N (x y : Nat) (hx : x < 18446744073709551616) (hy : y < 18446744073709551616) (w : World) :
    Calls Try.prog 106 #[.int .u64 x, .int .u64 y] w fun e w' => e = .returned (.tuple #[.int .u64 ((x * y / 18446744073709551616 : Nat) : Int), .int .u64 ((x * y % 18446744073709551616 : Nat) : Int)]) ∧ w' = w :=
  Any.bits_Mul64 mul64_lays x y hx hy w

theorem mul64_any (x y : Int) (hx : 0 ≤ x ∧ x < 18446744073709551616) (hy : 0 ≤ y ∧ y < 18446744073709551616) (w : World) :
    Calls Try.prog 106 #[.int .u64 x, .int .u64 y] w fun e w' => e = .returned (.tuple #[.int .u64 (hi (x * y)), .int .u64 (lo (x * y))]) ∧ w' = w := by
  obtain ⟨x, rfl⟩ := Int.eq_ofNat_of_zero_le hx.1
  obtain ⟨y, rfl⟩ := Int.eq_ofNat_of_zero_le hy.1
  have e1 : hi ((x : Int) * y) = ((x * y / 18446744073709551616 : Nat) : Int) := by unfold hi; rw [← Int.natCast_mul]; omega
  have e2 : lo ((x : Int) * y) = ((x * y % 18446744073709551616 : Nat) : Int) := by unfold lo; rw [← Int.natCast_mul]; omega
  rw [e1, e2]
  exact mul64N x y (by omega) (by omega) w

theorem hi_mul_bd {x y : Int} (hx : 0 ≤ x ∧ x < 18446744073709551616) (hy : 0 ≤ y ∧ y < 18446744073709551616) : 0 ≤ hi (x * y) ∧ hi (x * y) ≤ 18446744073709551614 ∧ x * y ≤ 18446744073709551615 * 18446744073709551615 ∧ 0 ≤ x * y := by
  have h0 : 0 ≤ x * y := Int.mul_nonneg hx.1 hy.1
  have h1 : x * y ≤ 18446744073709551615 * y := Int.mul_le_mul_of_nonneg_right (by omega) hy.1
  unfold hi
  omega
end Go.Proofs.Ytaipkganijofjab

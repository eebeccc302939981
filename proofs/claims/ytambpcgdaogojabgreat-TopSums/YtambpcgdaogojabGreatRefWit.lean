/-
  The contract of the document's Witness.
-/
import Derived.Test.YtambpcgdaogojabGreatRefPrime
import Derived.Test.YtambpcgdaogojabGreatMPower
namespace Go.Proofs.YtambpcgdaogojabGreat
open Go.RowKit

/-- What is told of whether a proves that n is no prime. -/
def WitT (a n : Nat) (e : Ending) : Prop :=
  ((n % 2 = 0 ∨ n < 3 ∨ 1099511627776 ≤ n) ∧ e = .returned (.tuple #[.bool false, .int .i64 1])) ∨
  (¬ (n % 2 = 0 ∨ n < 3 ∨ 1099511627776 ≤ n) ∧ Wit a n ∧ e = .returned (.tuple #[.bool true, .int .i64 0])) ∨
  (¬ (n % 2 = 0 ∨ n < 3 ∨ 1099511627776 ≤ n) ∧ ¬ Wit a n ∧ e = .returned (.tuple #[.bool false, .int .i64 0]))

theorem ofZ_limb {x : Int} (h : 0 ≤ x ∧ x < 18446744073709551616) : Digs 18446744073709551616 (ofZ x) ∧ rightB (ofZ x) = true ∧ val 18446744073709551616 (ofZ x) = x := by
  unfold ofZ
  split
  · subst x; exact ⟨Digs.nil _, rfl, rfl⟩
  · refine ⟨fun y hy => ?_, ?_, ?_⟩
    · simp at hy; subst hy; exact h
    · simp [rightB]; assumption
    · simp [val]

theorem small_limb {ls : List Int} {x : Int} (hd : Digs 18446744073709551616 ls) (hr : rightB ls = true) (hv : val 18446744073709551616 ls = x) (hx : x < 18446744073709551616) : smallZ ls = x := by
  have hl : ls.length ≤ 1 := len_le (B := 18446744073709551616) (by decide) hd (right_top hr) (by rw [hv]; omega)
  unfold smallZ
  rw [hr, if_pos (by simpa using hl)]
  match ls, hl with
  | [], _ => simpa [val] using hv
  | [y], _ => simpa [val] using hv

theorem one_limb {n : Nat} (h : 0 < n) : ofZ (n : Int) = [(n : Int)] := by unfold ofZ; rw [if_neg (by omega)]
theorem pow_cast (a d n : Nat) : ((a : Int) % (n : Int)) ^ d % (n : Int) = ((a ^ d % n : Nat) : Int) := by
  have e : ((a : Int) % (n : Int)) = ((a % n : Nat) : Int) := by simp
  rw [e, ← Int.natCast_pow, ← Int.natCast_emod, ← Nat.pow_mod]
theorem two_pow_bd {d s n : Nat} (h : n = d * 2 ^ s) (h0 : 0 < d) (hn : n < 1099511627776) : s ≤ 40 := by
  rcases Nat.lt_or_ge 40 s with e | e
  · exfalso
    have h1 : 2 ^ 41 ≤ 2 ^ s := Nat.pow_le_pow_right (by omega) e
    have h2 : 1 * 2 ^ s ≤ d * 2 ^ s := Nat.mul_le_mul h0 (Nat.le_refl _)
    omega
  · exact e

theorem sq_step {a n k : Nat} {x y : Int} (hx : x = ((a ^ k % n : Nat) : Int)) (hy : y = x * x % (n : Int)) : y = ((a ^ (k * 2) % n : Nat) : Int) := by
  rw [hy, hx, pow_mod_sq]
  simp only [Int.natCast_emod, Int.natCast_mul]

end Go.Proofs.YtambpcgdaogojabGreat

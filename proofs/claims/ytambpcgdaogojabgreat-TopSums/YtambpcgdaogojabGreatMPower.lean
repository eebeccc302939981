/-
  Contracts of the document's Power and Exp.
-/
import Derived.Test.YtambpcgdaogojabGreatMontC
namespace Go.Proofs.YtambpcgdaogojabGreat
open Go.RowKit

theorem bit_nat {es : List Int} {E : Nat} (hd : Digs 18446744073709551616 es) (hr : rightB es = true) (he : val 18446744073709551616 es = (E : Int)) (j : Nat) (hj : (j : Int) < 64 * (es.length : Int)) : bitB es (j : Int) = decide (E / 2 ^ j % 2 = 1) := by
  rw [bitB_in hr (by omega) (by omega)]
  have h := nat_bits hd he ((j : Int) / 64).toNat ((j : Int) % 64).toNat 1 (by omega)
  rw [show 64 * ((j : Int) / 64).toNat + ((j : Int) % 64).toNat = j by omega] at h
  have e1 : (2 : Int) ^ 1 = 2 := by decide
  have e2 : (2 : Nat) ^ 1 = 2 := by decide
  rw [e1, e2] at h
  rw [h]
  have : ((E / 2 ^ j % 2 : Nat) : Int) = 1 ↔ E / 2 ^ j % 2 = 1 := by omega
  simp only [this]

theorem half_dig (E j : Nat) : E / 2 ^ j = 2 * (E / 2 ^ (j + 1)) + E / 2 ^ j % 2 := by
  rw [Nat.pow_succ, ← Nat.div_div_eq_div_mul]; omega

theorem pow_sq {x n : Int} {k : Nat} : (x ^ k % n * (x ^ k % n)) % n = x ^ (2 * k) % n := by
  rw [← Int.mul_emod, ← Int.pow_add]; congr 2; omega

theorem pow_one_more {x n y : Int} {k : Nat} (h : y = x ^ k % n) : (y * x) % n = x ^ (k + 1) % n := by
  rw [h, Int.pow_succ, Int.mul_emod, Int.emod_emod, ← Int.mul_emod]

end Go.Proofs.YtambpcgdaogojabGreat

/-
  Bits and digits of a number's limbs (without a ring).
-/
import Derived.Test.YtambpcgdaogojaaShift
import Derived.Test.YtambpcgdaogojaaNatE
import Derived.Test.YtambpcgdaogojaaNatC
import Derived.Test.YtambpcgdaogojaaNatD
namespace Go.Proofs.Ytambpcgdaogojaa
open Go.RowKit

theorem wrap64 (z : Int) : IntKind.u64.wrap z = z % 18446744073709551616 := by simp [IntKind.wrap, IntKind.signed, IntKind.bits]

theorem val_ediv {zs : List Int} (hd : Digs 18446744073709551616 zs) : ∀ i : Nat, val 18446744073709551616 zs / 18446744073709551616 ^ i = zs.getD i 0 + 18446744073709551616 * val 18446744073709551616 (zs.drop (i + 1)) := by
  induction zs with
  | nil => intro i; simp [val]
  | cons x r ih =>
    intro i
    have hx := hd x (List.mem_cons_self ..)
    cases i with
    | zero => simp [val]
    | succ i =>
      have ih' := ih (fun y hy => hd y (List.mem_cons_of_mem _ hy)) i
      have e : (18446744073709551616 : Int) ^ (i + 1) = 18446744073709551616 * 18446744073709551616 ^ i := by rw [Int.pow_succ, Int.mul_comm]
      rw [val, e, ← Int.ediv_ediv_of_nonneg (by decide), Int.add_mul_ediv_left x _ (by decide), Int.ediv_eq_zero_of_lt hx.1 hx.2, Int.zero_add, ih']
      simp

theorem limb_bits {zs : List Int} (hd : Digs 18446744073709551616 zs) (i r s : Nat) (h : r + s ≤ 64) : (val 18446744073709551616 zs / 2 ^ (64 * i + r)) % 2 ^ s = (zs.getD i 0 / 2 ^ r) % 2 ^ s := by
  rw [Int.pow_add, ← pow64, ← Int.ediv_ediv_of_nonneg (Int.le_of_lt (pow_pos' (by decide) _)), val_ediv hd i]
  generalize val 18446744073709551616 (zs.drop (i + 1)) = t
  have e1 : (18446744073709551616 : Int) = 2 ^ r * (2 ^ s * 2 ^ (64 - r - s)) := by
    rw [← Int.pow_add, ← Int.pow_add]
    have : r + (s + (64 - r - s)) = 64 := by omega
    rw [this]; decide
  have e2 : 18446744073709551616 * t = 2 ^ r * (2 ^ s * (2 ^ (64 - r - s) * t)) := by
    rw [e1, Int.mul_assoc, Int.mul_assoc]
  have hp := pow_pos' (B := 2) (by decide) r
  rw [e2, Int.add_mul_ediv_left _ _ (by omega), Int.add_mul_emod_self_left]

theorem nat_bits {zs : List Int} {E : Nat} (hd : Digs 18446744073709551616 zs) (he : val 18446744073709551616 zs = (E : Int)) (i r s : Nat) (h : r + s ≤ 64) : (zs.getD i 0 / 2 ^ r) % 2 ^ s = ((E / 2 ^ (64 * i + r) % 2 ^ s : Nat) : Int) := by
  rw [← limb_bits hd i r s h, he]
  simp

theorem bits_lt {es : List Int} {E : Nat} (hd : Digs 18446744073709551616 es) (hr : rightB es = true) (he : val 18446744073709551616 es = (E : Int)) : 0 ≤ bitsZ es ∧ bitsZ es ≤ 64 * (es.length : Int) ∧ E < 2 ^ (bitsZ es).toNat := by
  by_cases h0 : es.length = 0
  · have e : es = [] := List.eq_nil_of_length_eq_zero h0
    subst e
    have : bitsZ [] = 0 := by simp [bitsZ]
    rw [this]
    simp only [val] at he
    refine ⟨by decide, by simp, ?_⟩
    show E < 1
    omega
  · obtain ⟨s, hs, e1, -, h2⟩ := bits_norm hd hr h0
    refine ⟨by omega, by omega, ?_⟩
    rw [he, pow64] at h2
    have e2 : (2 : Int) ^ (64 * es.length) = 2 ^ (bitsZ es).toNat * 2 ^ s := by rw [← Int.pow_add]; congr 1; omega
    rw [e2] at h2
    have h3 := Int.lt_of_mul_lt_mul_right h2 (Int.le_of_lt (pow_pos' (by decide) s))
    have h4 : ((2 ^ (bitsZ es).toNat : Nat) : Int) = (2 : Int) ^ (bitsZ es).toNat := by simp
    rw [← h4] at h3
    omega

end Go.Proofs.Ytambpcgdaogojaa

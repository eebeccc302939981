/-
  Contracts of the document's least, Is and Least.
-/
import Derived.Test.YtppfkmbclpebkaaGreatP5Math
namespace Go.Proofs.YtppfkmbclpebkaaGreat
open Go.RowKit

/-- What is told of whether n is a prime, and the error. -/
def isB (n : Nat) : Bool := decide (n < 1099511627776) && prB n
def isE (n : Nat) : Int := if n < 1099511627776 then 0 else 1
/-- What is told of the least divisor of n. -/
def ResLeast (n : Nat) (d : Nat) (err : Int) : Prop := if 2 ≤ n ∧ n < 1099511627776 then err = 0 ∧ LeastOf n d else d = 0 ∧ err = 1

theorem ResLeast.unique {n d c : Nat} {e f : Int} (h : ResLeast n d e) (h' : ResLeast n c f) : d = c ∧ e = f := by
  unfold ResLeast at h h'
  split at h
  · rename_i hc
    rw [if_pos hc] at h'
    exact ⟨h.2.unique h'.2, h.1.trans h'.1.symm⟩
  · rename_i hc
    rw [if_neg hc] at h'
    exact ⟨h.1.trans h'.1.symm, h.2.trans h'.2.symm⟩

theorem sq_bd {k n : Nat} (h : k * k ≤ n) (hn : n < 1099511627776) : k < 1048576 := by
  rcases Nat.lt_or_ge k 1048576 with h' | h'
  · exact h'
  · have := Nat.mul_le_mul h' h'
    omega

set_option maxRecDepth 20000 in
set_option maxHeartbeats 800000 in
theorem rleast_any (n : Nat) (w : World) (hn : n < 1099511627776) :
    Calls Tryz.prog 76 #[.int .u64 (n : Int)] w fun e w' => ∃ d : Nat, e = .returned (.int .u64 (d : Int)) ∧ LeastOf n d ∧ d ≤ n ∧ w' = w := by
  go_enter Tryz.func76, Tryz.ntmps76
  go_wp2
  go_loopw [3] (fun dv wr => ∃ k : Nat, 2 ≤ k ∧ k ≤ 1048576 ∧ dv = .int .u64 k ∧ Hid (∀ j : Nat, 2 ≤ j → j < k → ¬ j ∣ n) ∧ wr = w) (fun dv _ => 1048577 - (intOf dv).toNat)
  case atStart => exact ⟨2, by omega, by omega, rfl, fun j h1 h2 => by omega, rfl⟩
  case round =>
    obtain ⟨k, hk2, hk6, rfl, HK, rfl⟩ := hrel
    have q1 : (k : Int) * (k : Int) ≤ 1048576 * 1048576 := Int.mul_le_mul (by omega) (by omega) (by omega) (by omega)
    have q0 : 0 ≤ (k : Int) * (k : Int) := Int.mul_nonneg (by omega) (by omega)
    have q2 : (k : Int) * (k : Int) < 18446744073709551616 := by omega
    have qe : ((k * k : Nat) : Int) = (k : Int) * (k : Int) := Int.natCast_mul k k
    by_cases hkk : (k : Int) * (k : Int) ≤ (n : Int)
    · have hk5 := sq_bd (k := k) (n := n) (by omega) hn
      have hkp : (0 : Int) < (k : Int) := by omega
      have hne : ¬ (k : Int) = 0 := by omega
      clear qe
      by_cases hr : (n : Int) % (k : Int) = 0
      · have hdv : k ∣ n := by
          have : ((n % k : Nat) : Int) = 0 := by rw [Int.natCast_emod]; exact hr
          exact Nat.dvd_of_mod_eq_zero (by omega)
        have hkn : k * k ≤ n := by
          have : ((k * k : Nat) : Int) ≤ (n : Int) := by rw [Int.natCast_mul]; exact hkk
          omega
        have hle : k ≤ n := by
          have := Nat.le_mul_of_pos_left k (show 0 < k by omega)
          omega
        have HL : Hid (LeastOf n k ∧ k ≤ n) := ⟨.inl ⟨hk2, hkn, hdv, HK.out⟩, hle⟩
        clear HK hdv hkn hle
        go_wp2
        go_ret
        exact ⟨k, rfl, HL.out.1, HL.out.2, rfl⟩
      · have hr' : ((n : Int) % (k : Int) == 0) = false := by simp [hr]
        have HK2 : Hid (∀ j : Nat, 2 ≤ j → j < k + 1 → ¬ j ∣ n) := fun j h1 h2 h3 => by
          by_cases e : j = k
          · subst e
            apply hr
            have := Nat.mod_eq_zero_of_dvd h3
            rw [← Int.natCast_emod]; omega
          · exact HK.out j h1 (by omega) h3
        clear HK hr
        go_wp2
        go_roundw
        case rel => exact ⟨k + 1, by omega, by omega, by go_num, HK2, by first | rfl | trivial⟩
        case measure => simp [intOf]; omega
    · have hkd : decide ((k : Int) * (k : Int) ≤ (n : Int)) = false := decide_eq_false hkk
      have HL : Hid (LeastOf n n) := .inr ⟨rfl, fun j h1 h2 h3 => by
        rcases Nat.lt_or_ge j k with h | h
        · exact HK.out j h1 h h3
        · have := Nat.mul_le_mul h h
          omega⟩
      clear HK qe hkk
      go_wp2
      go_ret
      exact ⟨n, rfl, HL.out, Nat.le_refl _, rfl⟩
theorem is_far {n : Nat} (h : ¬ n < 1099511627776) : isB n = false ∧ isE n = 1 := by simp [isB, isE, h]
theorem is_near {n : Nat} (h : n < 1099511627776) : isB n = prB n ∧ isE n = 0 := by simp [isB, isE, h]

end Go.Proofs.YtppfkmbclpebkaaGreat

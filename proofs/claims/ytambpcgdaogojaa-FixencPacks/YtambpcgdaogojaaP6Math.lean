/-
  Paillier's way: units by n times n, what each hides, and how sums go through.
-/
import Derived.Test.YtambpcgdaogojaaP5Math
namespace Go.Proofs.Ytambpcgdaogojaa
open Go.RowKit

theorem one_mod_sq {n x : Nat} (h : 2 ≤ n) : (1 + n * x) % (n * n) = 1 + n * (x % n) := by
  have h1 : 1 + n * x = 1 + n * (x % n) + n * n * (x / n) := by
    have := Nat.div_add_mod x n
    have e : n * x = n * (n * (x / n) + x % n) := by rw [this]
    rw [e, Nat.mul_add, ← Nat.mul_assoc]
    omega
  have h2 : 1 + n * (x % n) < n * n := by
    have hx : x % n ≤ n - 1 := by have := Nat.mod_lt x (show 0 < n by omega); omega
    have h3 := Nat.mul_le_mul (Nat.le_refl n) hx
    have h4 : n * (n - 1) + n = n * n := by
      obtain ⟨m, rfl⟩ : ∃ m, n = m + 1 := ⟨n - 1, by omega⟩
      simp [Nat.mul_add]
    omega
  rw [h1, Nat.add_mul_mod_self_left, Nat.mod_eq_of_lt h2]

/-- What is 1 and a multiple of n, times another one. -/
theorem sq_mul {n x y : Nat} : (1 + n * x) * (1 + n * y) % (n * n) = (1 + n * (x + y)) % (n * n) := by
  have : (1 + n * x) * (1 + n * y) = 1 + n * (x + y) + n * n * (x * y) := by
    simp only [Nat.add_mul, Nat.mul_add, Nat.one_mul, Nat.mul_one]
    have e : n * x * (n * y) = n * n * (x * y) := by
      rw [Nat.mul_assoc, Nat.mul_left_comm x n y, ← Nat.mul_assoc n n]
    rw [e]
    omega
  rw [this, Nat.add_mul_mod_self_left]

theorem sq_pow {n x : Nat} (k : Nat) : (1 + n * x) ^ k % (n * n) = (1 + n * (k * x)) % (n * n) := by
  induction k with
  | zero => simp
  | succ k ih =>
    rw [Nat.pow_succ, Nat.mul_mod, ih, ← Nat.mul_mod, sq_mul, Nat.succ_mul]

/-- A number that has no divisor in common with a key's n: to the power of f it leaves 1 by n. -/
theorem euler {P Q c : Nat} (hP : Pr P) (hQ : Pr Q) (hne : P ≠ Q) (hc : Nat.gcd c (P * Q) = 1) : c ^ ((P - 1) * (Q - 1)) % (P * Q) = 1 := by
  have p2 := hP.1
  have q2 := hQ.1
  have hcP : c % P ≠ 0 := fun h => by
    have hd : P ∣ Nat.gcd c (P * Q) := Nat.dvd_gcd (Nat.dvd_of_mod_eq_zero h) (Nat.dvd_mul_right P Q)
    rw [hc] at hd
    have := Nat.le_of_dvd (by omega) hd
    omega
  have hcQ : c % Q ≠ 0 := fun h => by
    have hd : Q ∣ Nat.gcd c (P * Q) := Nat.dvd_gcd (Nat.dvd_of_mod_eq_zero h) (Nat.dvd_mul_left Q P)
    rw [hc] at hd
    have := Nat.le_of_dvd (by omega) hd
    omega
  have e1 : c ^ ((P - 1) * (Q - 1)) % P = 1 := by
    rw [Nat.pow_mul, Nat.pow_mod, fermat hP hcP, Nat.one_pow]
    exact Nat.mod_eq_of_lt (by omega)
  have e2 : c ^ ((P - 1) * (Q - 1)) % Q = 1 := by
    rw [Nat.mul_comm, Nat.pow_mul, Nat.pow_mod, fermat hQ hcQ, Nat.one_pow]
    exact Nat.mod_eq_of_lt (by omega)
  obtain ⟨y, hy⟩ : ∃ y, y = c ^ ((P - 1) * (Q - 1)) := ⟨_, rfl⟩
  rw [← hy] at e1 e2 ⊢
  have hy1 : 1 ≤ y := by
    rcases Nat.eq_zero_or_pos y with h | h
    · rw [h] at e1; simp at e1
    · exact h
  have d1 : P ∣ y - 1 := ⟨y / P, by have := Nat.div_add_mod y P; omega⟩
  have d2 : Q ∣ y - 1 := ⟨y / Q, by have := Nat.div_add_mod y Q; omega⟩
  have hco : Nat.Coprime P Q := hP.coprime (fun h => by
    have hd := Nat.dvd_of_mod_eq_zero h
    have hle := Nat.le_of_dvd (by omega) hd
    rcases Nat.lt_or_ge P Q with e | e
    · exact hQ.2 P p2 e hd
    · exact hne (by omega))
  have hd : P * Q ∣ y - 1 := hco.mul_dvd_of_dvd_of_dvd d1 d2
  obtain ⟨k, hk⟩ := hd
  have hn : 2 ≤ P * Q := by
    have := Nat.mul_le_mul p2 q2
    omega
  rw [show y = 1 + P * Q * k by omega, Nat.add_mul_mod_self_left, Nat.mod_eq_of_lt (by omega)]

/-- What a unit hides, times f: it is 1 and so many times n, to the power of f. -/
def lam (n f c : Nat) : Nat := (c ^ f % (n * n) - 1) / n

theorem lam_of {n f c x : Nat} (hn : 2 ≤ n) (h : c ^ f % (n * n) = (1 + n * x) % (n * n)) : lam n f c = x % n := by
  unfold lam
  rw [h, one_mod_sq hn, show 1 + n * (x % n) - 1 = n * (x % n) by omega, Nat.mul_div_cancel_left _ (by omega)]
theorem lam_eq {n f c : Nat} (hn : 2 ≤ n) (h : c ^ f % n = 1) : c ^ f % (n * n) = 1 + n * lam n f c ∧ lam n f c < n := by
  obtain ⟨y, hy⟩ : ∃ y, y = c ^ f % (n * n) := ⟨_, rfl⟩
  have h1 : y % n = 1 := by rw [hy, Nat.mod_mul_right_mod]; exact h
  have h2 : y < n * n := by rw [hy]; exact Nat.mod_lt _ (Nat.mul_pos (by omega) (by omega))
  have h3 := Nat.div_add_mod y n
  have h4 : lam n f c = y / n := by
    unfold lam
    rw [← hy, show y - 1 = n * (y / n) by omega, Nat.mul_div_cancel_left _ (by omega)]
  rw [← hy, h4]
  exact ⟨by omega, Nat.div_lt_of_lt_mul h2⟩
/-- The two as one fact: c to the power of f is 1 and lam times n. -/
theorem lam_sq {n f c : Nat} (hn : 2 ≤ n) (h : c ^ f % n = 1) : c ^ f % (n * n) = (1 + n * lam n f c) % (n * n) := by
  obtain ⟨h1, h2⟩ := lam_eq hn h
  rw [one_mod_sq hn, Nat.mod_eq_of_lt h2]; exact h1

theorem lam_mod {n f c : Nat} : lam n f (c % (n * n)) = lam n f c := by unfold lam; rw [← Nat.pow_mod]
theorem lam_mul {n f c d : Nat} (hn : 2 ≤ n) (hc : c ^ f % n = 1) (hd : d ^ f % n = 1) : lam n f (c * d) = (lam n f c + lam n f d) % n := by
  apply lam_of hn
  rw [Nat.mul_pow, Nat.mul_mod, lam_sq hn hc, lam_sq hn hd, ← Nat.mul_mod, sq_mul]
theorem lam_pow {n f c k : Nat} (hn : 2 ≤ n) (hc : c ^ f % n = 1) : lam n f (c ^ k) = k * lam n f c % n := by
  apply lam_of hn
  rw [← Nat.pow_mul, Nat.mul_comm k f, Nat.pow_mul, Nat.pow_mod, lam_sq hn hc, ← Nat.pow_mod, sq_pow]
theorem lam_hide {n f r : Nat} (hn : 2 ≤ n) (hr : r ^ f % n = 1) : lam n f (r ^ n) = 0 := by
  rw [lam_pow hn hr, Nat.mul_mod_right]
theorem lam_shown {n f m : Nat} (hn : 2 ≤ n) : lam n f (1 + n * m) = f * m % n := lam_of hn (sq_pow f)

/-- x is what c hides. -/
def Dec (n f c x : Nat) : Prop := x < n ∧ x * f % n = lam n f c % n

theorem Dec.unique {n f c x y : Nat} (hg : Nat.gcd n f = 1) (h : Dec n f c x) (h' : Dec n f c y) : x = y := by
  have key : ∀ {x y : Nat}, x ≤ y → y < n → x * f % n = y * f % n → x = y := fun {x y} hle hy he => by
    have hd : n ∣ (y - x) * f := by
      rw [Nat.sub_mul]
      exact Nat.dvd_of_mod_eq_zero (Nat.sub_mod_eq_zero_of_mod_eq he.symm)
    have hd' : n ∣ y - x := Nat.Coprime.dvd_of_dvd_mul_right hg hd
    rcases Nat.eq_zero_or_pos (y - x) with h0 | h0
    · omega
    · have := Nat.le_of_dvd h0 hd'
      omega
  rcases Nat.le_total x y with hle | hle
  · exact key hle h'.1 (h.2.trans h'.2.symm)
  · exact (key hle h.1 (h'.2.trans h.2.symm)).symm

theorem Dec.of {n f c x : Nat} (hn : 0 < n) (h : x * f % n = lam n f c % n) : Dec n f c (x % n) :=
  ⟨Nat.mod_lt _ hn, by rw [Nat.mul_mod, Nat.mod_mod, ← Nat.mul_mod]; exact h⟩
theorem Dec.mod {n f c x : Nat} : Dec n f (c % (n * n)) x ↔ Dec n f c x := by unfold Dec; rw [lam_mod]

theorem Dec.mul {n f c d x y : Nat} (hn : 2 ≤ n) (hc : c ^ f % n = 1) (hd : d ^ f % n = 1) (h : Dec n f c x) (h' : Dec n f d y) : Dec n f (c * d) ((x + y) % n) := by
  apply Dec.of (by omega)
  rw [lam_mul hn hc hd, Nat.mod_mod, Nat.add_mul, Nat.add_mod, h.2, h'.2, ← Nat.add_mod]
theorem Dec.pow {n f c x k : Nat} (hn : 2 ≤ n) (hc : c ^ f % n = 1) (h : Dec n f c x) : Dec n f (c ^ k) (x * k % n) := by
  apply Dec.of (by omega)
  rw [lam_pow hn hc, Nat.mod_mod, Nat.mul_right_comm, Nat.mul_comm (x * f) k, Nat.mul_mod, h.2, ← Nat.mul_mod]
theorem Dec.hide {n f r : Nat} (hn : 2 ≤ n) (hr : r ^ f % n = 1) : Dec n f (r ^ n) 0 := by
  refine ⟨by omega, ?_⟩
  rw [lam_hide hn hr, Nat.zero_mul]
theorem Dec.shown {n f m : Nat} (hn : 2 ≤ n) (hm : m < n) : Dec n f (1 + n * m) m := by
  refine ⟨hm, ?_⟩
  rw [lam_shown hn, Nat.mod_mod, Nat.mul_comm]

/-- 1 and a multiple of n has no divisor in common with n. -/
theorem unit_shown (n m : Nat) : Nat.gcd (1 + n * m) n = 1 := by
  rw [Nat.gcd_comm, Nat.gcd_add_mul_left_right]
  simp
theorem unit_mod {c n : Nat} (h : Nat.gcd c n = 1) : Nat.gcd (c % (n * n)) n = 1 := by
  have e : c % (n * n) + n * (n * (c / (n * n))) = c := by rw [← Nat.mul_assoc]; exact Nat.mod_add_div _ _
  rw [Nat.gcd_comm, ← Nat.gcd_add_mul_left_right n _ (n * (c / (n * n))), e, Nat.gcd_comm]
  exact h
theorem unit_mul {c d n : Nat} (hc : Nat.gcd c n = 1) (hd : Nat.gcd d n = 1) : Nat.gcd (c * d) n = 1 := Nat.Coprime.mul_left hc hd
theorem unit_pow {c n : Nat} (k : Nat) (hc : Nat.gcd c n = 1) : Nat.gcd (c ^ k) n = 1 := Nat.Coprime.pow_left k hc

/-- What is told of a key: its n and its f. -/
theorem KeyOk.facts {P Q : Nat} (h : KeyOk P Q) : Pr P ∧ Pr Q ∧ P ≠ Q ∧ Nat.gcd (P * Q) ((P - 1) * (Q - 1)) = 1 ∧ 16384 ≤ P * Q ∧ P * Q < 1208925819614629174706176 ∧ P * Q % 2 = 1 := by
  obtain ⟨⟨a, a'⟩, ⟨b, b'⟩, c, c', h3, _, h5⟩ := h
  have odd : ∀ p, Pr p → 128 ≤ p → p % 2 = 1 := fun p hp h => by
    rcases Nat.mod_two_eq_zero_or_one p with e | e
    · exact absurd (Nat.dvd_of_mod_eq_zero e) (hp.2 2 (by omega) (by omega))
    · exact e
  have h1 := Nat.mul_le_mul a a'
  have h2 : P * Q < 1099511627776 * 1099511627776 := Nat.mul_lt_mul'' b b'
  refine ⟨c, c', h3, h5, by omega, by omega, ?_⟩
  rw [Nat.mul_mod, odd P c a, odd Q c' a']
theorem KeyOk.euler {P Q c : Nat} (h : KeyOk P Q) (hc : Nat.gcd c (P * Q) = 1) : c ^ ((P - 1) * (Q - 1)) % (P * Q) = 1 := by
  obtain ⟨h1, h2, h3, _⟩ := h.facts
  exact Go.Proofs.Ytambpcgdaogojaa.euler h1 h2 h3 hc
end Go.Proofs.Ytambpcgdaogojaa

/-
  Fractions: what they are, and what is told of them.
-/
import Derived.Test.YtfeapegdaffckaaF7A
namespace Go.Proofs.Ytfeapegdaffckaa
open Go.RowKit

/-- A fraction that may be: a whole number by a number, in lowest terms. -/
def rightF (n : Bool) (xs ys : List Int) : Bool := rightI n xs && (rightB ys && (decide (0 < ys.length) && (decide (ys.length ≤ 16) && (decide (xs.length ≤ 16) && decide (Nat.gcd (nv xs) (nv ys) = 1)))))
/-- The greatest common divisor of a numerator and a denominator; both by it. -/
def gF (x : Int) (y : Nat) : Nat := Nat.gcd x.natAbs y
def numF (x : Int) (y : Nat) : Int := x / (gF x y : Int)
def denF (x : Int) (y : Nat) : Nat := y / gF x y
/-- What is told of x by y: a fault, or none. -/
def makF (x : Int) (y : Nat) : Option Int := if y = 0 then some 3 else if (numF x y).natAbs < 18446744073709551616 ^ 16 ∧ denF x y < 18446744073709551616 ^ 16 then none else some 4
/-- What is told: a fault's number, or a fraction. -/
def ToldF (f : Option Int) (x : Int) (y : Nat) (n : Bool) (xs ys : List Int) (err : Int) : Prop := (∃ e, f = some e ∧ (n = false ∧ xs = [] ∧ ys = []) ∧ err = e) ∨ (f = none ∧ (IsW n xs x ∧ IsN ys y) ∧ err = 0)
theorem ToldF.unique {f : Option Int} {x : Int} {y : Nat} {n m : Bool} {xs ys us vs : List Int} {e e' : Int} (h : ToldF f x y n xs ys e) (h' : ToldF f x y m us vs e') : n = m ∧ xs = us ∧ ys = vs ∧ e = e' := by
  rcases h with ⟨z, rfl, ⟨rfl, rfl, rfl⟩, rfl⟩ | ⟨rfl, ⟨h1, h2⟩, rfl⟩ <;> rcases h' with ⟨z', hz, ⟨rfl, rfl, rfl⟩, rfl⟩ | ⟨hz, ⟨k1, k2⟩, rfl⟩
  · cases hz; exact ⟨rfl, rfl, rfl, rfl⟩
  · cases hz
  · cases hz
  · obtain ⟨rfl, rfl⟩ := h1.unique k1
    obtain rfl := h2.unique k2
    exact ⟨rfl, rfl, rfl, rfl⟩
theorem ToldF.bad {f : Option Int} {x : Int} {y : Nat} {e : Int} (h : f = some e) : ToldF f x y false [] [] e := .inl ⟨e, h, ⟨rfl, rfl, rfl⟩, rfl⟩
theorem ToldF.good {f : Option Int} {x : Int} {y : Nat} {n : Bool} {xs ys : List Int} (h : f = none) (h1 : IsW n xs x) (h2 : IsN ys y) : ToldF f x y n xs ys 0 := .inr ⟨h, ⟨h1, h2⟩, rfl⟩

theorem rightF_iff (n : Bool) (xs ys : List Int) : rightF n xs ys = true ↔ rightI n xs = true ∧ rightB ys = true ∧ 0 < ys.length ∧ ys.length ≤ 16 ∧ xs.length ≤ 16 ∧ Nat.gcd (nv xs) (nv ys) = 1 := by simp [rightF]
theorem rightF_parts {n : Bool} {xs ys : List Int} (hx : Digs 18446744073709551616 xs) (hy : Digs 18446744073709551616 ys) (h : rightF n xs ys = true) : IsW n xs (iv n xs) ∧ IsN ys (nv ys) ∧ 0 < nv ys ∧ Nat.gcd (iv n xs).natAbs (nv ys) = 1 ∧ ((iv n xs).natAbs : Int) < 18446744073709551616 ^ 16 ∧ ((nv ys : Nat) : Int) < 18446744073709551616 ^ 16 := by
  obtain ⟨h1, h2, h3, h4, h5, h6⟩ := (rightF_iff n xs ys).1 h
  have hW := IsW.self hx h1
  have hN := IsN.self hy h2
  have hm := hW.mag
  refine ⟨hW, hN, (nv_pos hy h2).2 (by omega), ?_, ?_, ?_⟩
  · rw [← hm.nv]; exact h6
  · rw [← hm.2.2]; exact Int.lt_of_lt_of_le (val_lt_pow (by decide) hx (Nat.le_refl _)) (pow_mono (by decide) h5)
  · rw [← hN.2.2]; exact Int.lt_of_lt_of_le (val_lt_pow (by decide) hy (Nat.le_refl _)) (pow_mono (by decide) h4)

theorem gF_pos {x : Int} {y : Nat} (hy : 0 < y) : 0 < gF x y := Nat.gcd_pos_of_pos_right _ hy
theorem gF_num (x : Int) (y : Nat) : numF x y * (gF x y : Int) = x := Int.ediv_mul_cancel (Int.ofNat_dvd_left.2 (Nat.gcd_dvd_left _ _))
theorem gF_den (x : Int) (y : Nat) : denF x y * gF x y = y := Nat.div_mul_cancel (Nat.gcd_dvd_right _ _)
theorem num_abs (x : Int) (y : Nat) : (numF x y).natAbs = x.natAbs / gF x y := by
  rcases Nat.eq_zero_or_pos (gF x y) with e | e
  · unfold numF; rw [e]; simp
  · have h := gF_num x y
    have h2 : (numF x y).natAbs * gF x y = x.natAbs := by
      rw [← h, Int.natAbs_mul]
      simp [h]
    rw [← h2, Nat.mul_div_cancel _ e]
theorem den_pos {x : Int} {y : Nat} (hy : 0 < y) : 0 < denF x y := Nat.div_pos (Nat.le_of_dvd hy (Nat.gcd_dvd_right _ _)) (gF_pos hy)
theorem num_den {x : Int} {y : Nat} (hy : 0 < y) : Nat.gcd (numF x y).natAbs (denF x y) = 1 := by
  rw [num_abs]
  exact Nat.gcd_div_gcd_div_gcd_of_pos_right hy
/-- Two fractions of one value in lowest terms are the same. -/
theorem low_unique {x u : Int} {y v : Nat} (hy : 0 < y) (hv : 0 < v) (hx : Nat.gcd x.natAbs y = 1) (hu : Nat.gcd u.natAbs v = 1) (h : x * (v : Int) = u * (y : Int)) : x = u ∧ y = v := by
  have ha : x.natAbs * v = u.natAbs * y := by
    have := congrArg Int.natAbs h
    rw [Int.natAbs_mul, Int.natAbs_mul] at this
    simpa using this
  have h1 : y ∣ v := (Nat.Coprime.symm hx).dvd_of_dvd_mul_left (by rw [ha]; exact Nat.dvd_mul_left _ _)
  have h2 : v ∣ y := (Nat.Coprime.symm hu).dvd_of_dvd_mul_left (by rw [← ha]; exact Nat.dvd_mul_left _ _)
  have e : y = v := Nat.dvd_antisymm h1 h2
  subst e
  exact ⟨Int.eq_of_mul_eq_mul_right (by omega) h, rfl⟩
/-- What x by y is in lowest terms. -/
theorem low_of {x u : Int} {y v : Nat} (hy : 0 < y) (hv : 0 < v) (hu : Nat.gcd u.natAbs v = 1) (h : x * (v : Int) = u * (y : Int)) : numF x y = u ∧ denF x y = v := by
  refine low_unique (den_pos hy) hv (num_den hy) hu ?_
  have h1 := gF_num x y
  have h2 := gF_den x y
  have hg := gF_pos (x := x) hy
  refine Int.eq_of_mul_eq_mul_right (a := (gF x y : Int)) (by omega) ?_
  have e1 : numF x y * (v : Int) * (gF x y : Int) = numF x y * (gF x y : Int) * (v : Int) := by rw [Int.mul_assoc, Int.mul_comm (v : Int), ← Int.mul_assoc]
  have e2 : u * (denF x y : Int) * (gF x y : Int) = u * (y : Int) := by rw [Int.mul_assoc, ← Int.natCast_mul, h2]
  rw [e1, e2, h1, h]
theorem num_sign {x : Int} {y : Nat} (hy : 0 < y) : (numF x y < 0 ↔ x < 0) ∧ (numF x y = 0 ↔ x = 0) := by
  have h1 := gF_num x y
  have hg := gF_pos (x := x) hy
  obtain ⟨g, hge⟩ : ∃ g : Int, g = (gF x y : Int) := ⟨_, rfl⟩
  have hg0 : 0 < g := by omega
  rw [← hge] at h1
  constructor
  · constructor
    · intro h
      rw [← h1]
      exact Int.mul_neg_of_neg_of_pos h hg0
    · intro h
      rcases Int.lt_or_le (numF x y) 0 with c | c
      · exact c
      · have := Int.mul_nonneg c (Int.le_of_lt hg0)
        omega
  · constructor
    · intro h
      rw [h, Int.zero_mul] at h1
      exact h1.symm
    · intro h
      rcases Int.mul_eq_zero.1 (h1.trans h) with c | c
      · exact c
      · omega
end Go.Proofs.Ytfeapegdaffckaa

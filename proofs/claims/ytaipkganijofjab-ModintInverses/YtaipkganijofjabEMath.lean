/-
  Euclid's steps: common divisors, the factors that go with the rests, inverses by a modulus.
-/
import Derived.Test.YtaipkganijofjabFMath
namespace Go.Proofs.Ytaipkganijofjab
open Go.RowKit

/-- The greatest common divisor. -/
def gz (a b : Int) : Int := ((Nat.gcd a.toNat b.toNat : Nat) : Int)

theorem gz_zero {a : Int} (h : 0 ≤ a) : gz a 0 = a := by
  unfold gz; simp; omega

theorem toNat_emod' {a b : Int} (ha : 0 ≤ a) (hb : 0 ≤ b) : (a % b).toNat = a.toNat % b.toNat := by
  obtain ⟨x, rfl⟩ := Int.eq_ofNat_of_zero_le ha
  obtain ⟨y, rfl⟩ := Int.eq_ofNat_of_zero_le hb
  rfl

theorem gz_step {a b : Int} (ha : 0 ≤ a) (hb : 0 ≤ b) : gz b (a % b) = gz a b := by
  unfold gz
  rw [toNat_emod' ha hb, Nat.gcd_comm a.toNat, Nat.gcd_rec b.toNat a.toNat, Nat.gcd_comm]

theorem gz_mod {a n : Int} (ha : 0 ≤ a) (hn : 0 ≤ n) : gz n (a % n) = gz n a := by
  rw [gz_step ha hn]
  unfold gz
  rw [Nat.gcd_comm]

/-- X and Y are a times s and t, but for some n; and the factors stay small. -/
structure Bez (n a X Y s t : Int) : Prop where
  first : (a * s - X) % n = 0
  second : (a * t - Y) % n = 0
  size : X * sz t + Y * sz s = n
  signs : (s ≤ 0 ∧ 0 ≤ t) ∨ (t ≤ 0 ∧ 0 ≤ s)

theorem Bez.start (n a Y : Int) (h : (a - Y) % n = 0) : Bez n a n Y 0 1 := by
  refine ⟨?_, by rw [Int.mul_one]; exact h, ?_, .inl ⟨Int.le_refl _, by decide⟩⟩
  · simp
  · simp [sz]

theorem sz_nonneg (x : Int) : 0 ≤ sz x := by unfold sz; split <;> omega

theorem sz_opp {s t q : Int} (hq : 0 ≤ q) (h : (s ≤ 0 ∧ 0 ≤ t) ∨ (t ≤ 0 ∧ 0 ≤ s)) : sz (s - q * t) = sz s + q * sz t ∧ ((t ≤ 0 ∧ 0 ≤ s - q * t) ∨ (s - q * t ≤ 0 ∧ 0 ≤ t)) := by
  rcases h with ⟨h1, h2⟩ | ⟨h1, h2⟩
  · have hp := Int.mul_nonneg hq h2
    have et : sz t = t := by unfold sz; split <;> omega
    have es : sz s = -s := by unfold sz; split <;> omega
    have e : sz (s - q * t) = -(s - q * t) := by unfold sz; split <;> omega
    rw [e, et, es]
    exact ⟨by omega, .inr ⟨by omega, h2⟩⟩
  · have hp := Int.mul_nonneg hq (show 0 ≤ -t by omega)
    rw [Int.mul_neg] at hp
    have et : sz t = -t := by unfold sz; split <;> omega
    have es : sz s = s := by unfold sz; split <;> omega
    have e : sz (s - q * t) = s - q * t := by unfold sz; split <;> omega
    rw [e, et, es, Int.mul_neg]
    exact ⟨by omega, .inl ⟨h1, by omega⟩⟩

theorem Bez.step {n a X Y s t : Int} (h : Bez n a X Y s t) (hX : 0 ≤ X) (hY : 0 < Y) : Bez n a Y (X % Y) t (s - X / Y * t) ∧ sz (X / Y * t) ≤ n ∧ sz (s - X / Y * t) ≤ n := by
  obtain ⟨h1, h2, h3, h4⟩ := h
  have hq : 0 ≤ X / Y := Int.ediv_nonneg hX (by omega)
  have hr := Int.emod_nonneg X (show Y ≠ 0 by omega)
  have hm := Int.mul_ediv_add_emod X Y
  obtain ⟨o1, o2⟩ := sz_opp hq h4
  have ns := sz_nonneg s
  have nt := sz_nonneg t
  have hqt : sz (X / Y * t) = X / Y * sz t := by
    have := (sz_opp (s := 0) (t := t) hq (by omega)).1
    have e0 : sz 0 = 0 := rfl
    rw [e0, Int.zero_add, Int.zero_sub] at this
    rw [← this]
    unfold sz
    split <;> split <;> omega
  generalize hQ : X / Y = q at *
  generalize hR : X % Y = r at *
  have size : Y * sz (s - q * t) + r * sz t = n := by
    rw [o1, Int.mul_add, ← Int.mul_assoc, Int.add_assoc, ← Int.add_mul, hm, Int.add_comm, h3]
  have hrt := Int.mul_nonneg hr nt
  have hYs : sz (s - q * t) * 1 ≤ sz (s - q * t) * Y := Int.mul_le_mul_of_nonneg_left (by omega) (sz_nonneg _)
  rw [Int.mul_comm _ Y, Int.mul_one] at hYs
  have hle : sz (s - q * t) ≤ n := by omega
  have hqn := Int.mul_nonneg hq nt
  refine ⟨⟨h2, ?_, size, ?_⟩, by omega, hle⟩
  · have e : a * (s - q * t) - r = (a * s - X) - q * (a * t - Y) := by
      rw [← hm, Int.mul_sub, Int.mul_sub, ← Int.mul_assoc, Int.mul_comm a q, Int.mul_assoc, Int.mul_comm Y q]
      omega
    rw [e]
    exact Int.emod_eq_zero_of_dvd (Int.dvd_sub (Int.dvd_of_emod_eq_zero h1) (Int.dvd_trans (Int.dvd_of_emod_eq_zero h2) (Int.dvd_mul_left _ _)))
  · rcases o2 with o2 | o2
    · exact .inl o2
    · exact .inr o2

/-- One number times an inverse leaves 1: there is one inverse. -/
theorem inv_unique {a n x y : Int} (hx : 0 ≤ x ∧ x < n) (hy : 0 ≤ y ∧ y < n) (h1 : a * x % n = 1) (h2 : a * y % n = 1) : x = y := by
  have e1 : x * (a * y) % n = x % n := by rw [Int.mul_emod, h2, Int.mul_one, Int.emod_emod]
  have e2 : y * (a * x) % n = y % n := by rw [Int.mul_emod, h1, Int.mul_one, Int.emod_emod]
  have e3 : x * (a * y) = y * (a * x) := by rw [← Int.mul_assoc, ← Int.mul_assoc, Int.mul_comm x a, Int.mul_comm y a, Int.mul_assoc, Int.mul_assoc, Int.mul_comm x y]
  rw [e3, e2] at e1
  rw [Int.emod_eq_of_lt hx.1 hx.2, Int.emod_eq_of_lt hy.1 hy.2] at e1
  exact e1.symm

/-- What is told of an inverse. -/
def ResInv (zs ns : List Int) (ls : List Int) (err : Int) : Prop :=
  if rightB zs && (rightB ns && decide (2 ≤ val 18446744073709551616 ns)) then
    (if gz (val 18446744073709551616 ns) (val 18446744073709551616 zs) = 1 then err = 0 ∧ Digs 18446744073709551616 ls ∧ rightB ls = true ∧ val 18446744073709551616 ls < val 18446744073709551616 ns ∧ val 18446744073709551616 zs * val 18446744073709551616 ls % val 18446744073709551616 ns = 1 else err = 6 ∧ ls = [])
  else err = 1 ∧ ls = []

theorem ResInv.unique {zs ns ls ks : List Int} {e f : Int} (h : ResInv zs ns ls e) (h' : ResInv zs ns ks f) : ls = ks ∧ e = f := by
  unfold ResInv at h h'
  split at h
  · rename_i hc
    rw [if_pos hc] at h'
    split at h
    · rename_i hc2
      rw [if_pos hc2] at h'
      obtain ⟨rfl, d1, r1, l1, v1⟩ := h
      obtain ⟨rfl, d2, r2, l2, v2⟩ := h'
      have := inv_unique ⟨val_nonneg (by decide) d1, l1⟩ ⟨val_nonneg (by decide) d2, l2⟩ v1 v2
      exact ⟨val_inj (by decide) d1 d2 (right_top r1) (right_top r2) this, rfl⟩
    · rename_i hc2
      rw [if_neg hc2] at h'
      obtain ⟨rfl, rfl⟩ := h
      obtain ⟨rfl, rfl⟩ := h'
      exact ⟨rfl, rfl⟩
  · rename_i hc
    rw [if_neg hc] at h'
    obtain ⟨rfl, rfl⟩ := h
    obtain ⟨rfl, rfl⟩ := h'
    exact ⟨rfl, rfl⟩

/-- What is told of a greatest common divisor. -/
def ResGcd (zs ys : List Int) (ls : List Int) (err : Int) : Prop :=
  if rightB zs && rightB ys then err = 0 ∧ Digs 18446744073709551616 ls ∧ rightB ls = true ∧ val 18446744073709551616 ls = gz (val 18446744073709551616 zs) (val 18446744073709551616 ys) else err = 1 ∧ ls = []

theorem ResGcd.unique {zs ys ls ks : List Int} {e f : Int} (h : ResGcd zs ys ls e) (h' : ResGcd zs ys ks f) : ls = ks ∧ e = f := by
  unfold ResGcd at h h'
  split at h
  · rename_i hc
    rw [if_pos hc] at h'
    obtain ⟨rfl, d1, r1, v1⟩ := h
    obtain ⟨rfl, d2, r2, v2⟩ := h'
    exact ⟨val_inj (by decide) d1 d2 (right_top r1) (right_top r2) (v1.trans v2.symm), rfl⟩
  · rename_i hc
    rw [if_neg hc] at h'
    obtain ⟨rfl, rfl⟩ := h
    obtain ⟨rfl, rfl⟩ := h'
    exact ⟨rfl, rfl⟩
end Go.Proofs.Ytaipkganijofjab

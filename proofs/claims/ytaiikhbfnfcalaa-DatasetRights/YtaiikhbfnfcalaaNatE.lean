/-
  Contracts of takeTimes and takeOut: a divisor is taken out of limbs as often as it goes.
  The contract of longDivision: Knuth's division of a number by one of two limbs or more.
  The contract of nat.Div: the quotient and the rest of two numbers.
-/
import Derived.Test.YtaiikhbfnfcalaaNatD
import Derived.Test.YtaiikhbfnfcalaaNatC
import Derived.Test.YtaiikhbfnfcalaaNatB
import Derived.Deep.DeepCutAuto
import Derived.Deep.CutBlock
namespace Go.Proofs.Ytaiikhbfnfcalaa
open Go.RowKit

theorem tt_step {L M : List Int} {o n k : Nat} {ys : List Int} {cy m x y : Int} (hk : k < n) (hon : o + n ≤ L.length) (hml : M.length = L.length) (hmd : Digs 18446744073709551616 M) (hyd : Digs 18446744073709551616 ys) (hm : 0 ≤ m ∧ m < 18446744073709551616)
    (hsame : ∀ j, j < o ∨ o + k ≤ j → M.getD j 0 = L.getD j 0) (hc : 0 ≤ cy ∧ cy < 18446744073709551616)
    (hv : vs 18446744073709551616 (fun i => M.getD (o + i) 0) k - 18446744073709551616 ^ k * cy = vs 18446744073709551616 (fun i => L.getD (o + i) 0) k - m * vs 18446744073709551616 (fun i => ys.getD i 0) k)
    (hx : x = M.getD (o + k) 0) (hy : y = ys.getD k 0) {h l r s b z : Int} (e1 : l + 18446744073709551616 * h = y * m) (e2 : s + 18446744073709551616 * r = l + cy) (e3 : z - 18446744073709551616 * b = x - s) (_bs : 0 ≤ s ∧ s < 18446744073709551616) (bz : 0 ≤ z ∧ z < 18446744073709551616) (_bh : 0 ≤ h) (_br : 0 ≤ r) (_bb : 0 ≤ b ∧ b ≤ 1) :
    (M.set (o + k) z).length = L.length ∧ Digs 18446744073709551616 (M.set (o + k) z) ∧
    (∀ j, j < o ∨ o + (k + 1) ≤ j → (M.set (o + k) z).getD j 0 = L.getD j 0) ∧ (0 ≤ h + r + b ∧ h + r + b < 18446744073709551616) ∧
    vs 18446744073709551616 (fun i => (M.set (o + k) z).getD (o + i) 0) (k + 1) - 18446744073709551616 ^ (k + 1) * (h + r + b) = vs 18446744073709551616 (fun i => L.getD (o + i) 0) (k + 1) - m * vs 18446744073709551616 (fun i => ys.getD i 0) (k + 1) := by
  have bx : 0 ≤ x ∧ x < 18446744073709551616 := by rw [hx]; exact hmd.getD (by decide) _
  have by' : 0 ≤ y ∧ y < 18446744073709551616 := by rw [hy]; exact hyd.getD (by decide) _
  have hp := hi_mul_bd by' hm
  have et : z - 18446744073709551616 * (h + r + b) = x - y * m - cy := by omega
  refine ⟨by simpa using hml, hmd.set _ bz, fun j hj => ?_, ⟨by omega, by omega⟩, ?_⟩
  · rw [getD_set_ne (by omega)]; exact hsame j (by omega)
  · have f1 : vs 18446744073709551616 (fun i => (M.set (o + k) z).getD (o + i) 0) k = vs 18446744073709551616 (fun i => M.getD (o + i) 0) k :=
      vs_congr (fun i hi => getD_set_ne (by omega))
    have f2 : (M.set (o + k) z).getD (o + k) 0 = z := getD_set_self (by omega)
    have f3 := hsame (o + k) (by omega)
    simp only [vs]
    rw [f1, f2, ← f3, ← hx, ← hy, Int.pow_succ, Int.mul_assoc, Int.mul_add m]
    generalize (18446744073709551616 : Int) ^ k = P at hv ⊢
    have e6 : P * z - P * (18446744073709551616 * (h + r + b)) = P * x - P * (y * m) - P * cy := by rw [← Int.mul_sub, et, Int.mul_sub, Int.mul_sub]
    have e7 : m * (P * y) = P * (y * m) := by rw [Int.mul_left_comm, Int.mul_comm m y]
    omega

/-- The guess of a digit is not below it. -/
theorem guess_ge {W D : Int} {n : Nat} {wn w1 d1 q : Int} (hD : d1 * 18446744073709551616 ^ n ≤ D) (hW : W < (wn * 18446744073709551616 + w1 + 1) * 18446744073709551616 ^ n) (hq : q * D ≤ W) (hq0 : 0 ≤ q) : q * d1 ≤ wn * 18446744073709551616 + w1 := by
  have hp := pow_pos' (B := 18446744073709551616) (by decide) n
  by_cases hc : q * d1 ≤ wn * 18446744073709551616 + w1
  · exact hc
  · have f1 : q * (d1 * 18446744073709551616 ^ n) ≤ q * D := Int.mul_le_mul_of_nonneg_left hD hq0
    have f2 : (wn * 18446744073709551616 + w1 + 1) * 18446744073709551616 ^ n ≤ q * d1 * 18446744073709551616 ^ n := Int.mul_le_mul_of_nonneg_right (by omega) (by omega)
    rw [Int.mul_assoc] at f2
    omega

theorem guess_le {q d r x g : Int} (e : x = g * d + r) (hr : r < d) (hd : 0 < d) (h : q * d ≤ x) : q ≤ g := by
  by_cases hc : q ≤ g
  · exact hc
  · have : (g + 1) * d ≤ q * d := Int.mul_le_mul_of_nonneg_right (by omega) (by omega)
    rw [Int.add_mul] at this
    omega

theorem div64_bd {h lw y : Int} (hh : 0 ≤ h) (hl : 0 ≤ lw ∧ lw < 18446744073709551616) (hhy : h < y) : (h * 18446744073709551616 + lw) / y < 18446744073709551616 := by
  refine Int.ediv_lt_of_lt_mul (by omega) ?_
  have : (h + 1) * 18446744073709551616 ≤ y * 18446744073709551616 := Int.mul_le_mul_of_nonneg_right (by omega) (by omega)
  omega

/-- Where the loop of takeOut stands: the true digit is not above the guess. -/
structure Owed (W D P q X debt gs : Int) : Prop where
  eq : X - P * debt = W - gs * D
  x : 0 ≤ X ∧ X < P
  d : 0 ≤ debt ∧ debt ≤ 1
  g : q ≤ gs ∧ gs < 18446744073709551616

theorem Owed.pos {W D P q X debt gs : Int} (h : Owed W D P q X debt gs) (hd : 0 < debt) (hq : q * D ≤ W) (hq0 : 0 ≤ q) : debt = 1 ∧ q + 1 ≤ gs ∧ 1 ≤ gs := by
  have h1 := h.d
  have e : debt = 1 := by omega
  subst e
  have h2 := h.eq
  have h3 := h.x
  have : q + 1 ≤ gs := by
    by_cases hc : q + 1 ≤ gs
    · exact hc
    · have hg := h.g
      have : gs = q := by omega
      subst this; omega
  exact ⟨rfl, this, by omega⟩

theorem Owed.zero {W D P q X gs : Int} (h : Owed W D P q X 0 gs) (hD : 0 < D) (hup : W < (q + 1) * D) : gs = q ∧ X = W - q * D := by
  have h2 := h.eq
  have h3 := h.x
  have hg := h.g
  have : gs ≤ q := by
    by_cases hc : gs ≤ q
    · exact hc
    · have : (q + 1) * D ≤ gs * D := Int.mul_le_mul_of_nonneg_right (by omega) (by omega)
      omega
  have e : gs = q := by omega
  subst e
  exact ⟨rfl, by omega⟩

end Go.Proofs.Ytaiikhbfnfcalaa

namespace Go.Proofs.Ytaiikhbfnfcalaa
open Go.RowKit

theorem top_room {ys : List Int} {n s : Nat} (hy : Digs 18446744073709551616 ys) (hl : ys.length = n + 1) (hs : s ≤ 64) (h : ys.getD n 0 * 2 ^ s < 18446744073709551616) : val 18446744073709551616 ys * 2 ^ s < 18446744073709551616 ^ (n + 1) := by
  have hpr := pr_eq hs
  have p1 := pow_pos' (B := 2) (by decide) s
  have p2 := pow_pos' (B := 2) (by decide) (64 - s)
  have pn := pow_pos' (B := 18446744073709551616) (by decide) n
  have e := val_take_succ 18446744073709551616 ys n (by omega)
  rw [List.take_of_length_le (by omega)] at e
  have t := val_lt (B := 18446744073709551616) (by decide) (hy.take n)
  rw [List.length_take, Nat.min_eq_left (by omega)] at t
  have hd : ys.getD n 0 < 2 ^ (64 - s) := by
    by_cases hc : ys.getD n 0 < 2 ^ (64 - s)
    · exact hc
    · have : 2 ^ (64 - s) * 2 ^ s ≤ ys.getD n 0 * 2 ^ s := Int.mul_le_mul_of_nonneg_right (by omega) (by omega)
      rw [Int.mul_comm (2 ^ (64 - s)), hpr] at this
      omega
  have f1 : 18446744073709551616 ^ n * (ys.getD n 0 + 1) ≤ 18446744073709551616 ^ n * 2 ^ (64 - s) := Int.mul_le_mul_of_nonneg_left (by omega) (by omega)
  rw [Int.mul_add] at f1
  have f2 : val 18446744073709551616 ys * 2 ^ s < 18446744073709551616 ^ n * 2 ^ (64 - s) * 2 ^ s := Int.mul_lt_mul_of_pos_right (by omega) p1
  rw [Int.mul_assoc, Int.mul_comm (2 ^ (64 - s)), hpr] at f2
  rw [Int.pow_succ]; exact f2

/-- Where the division stands: k limbs of the quotient are still to come. -/
structure Stands (A D : Int) (nq m k : Nat) (Q R : List Int) : Prop where
  eq : A = vs 18446744073709551616 (fun j => Q.getD j 0) nq * D + vs 18446744073709551616 (fun j => R.getD j 0) m
  up : vs 18446744073709551616 (fun j => R.getD j 0) m < 18446744073709551616 ^ k * D
  zero : ∀ j, j < k → Q.getD j 0 = 0

theorem stands_win {A D : Int} {nq m k n : Nat} {Q R : List Int} (h : Stands A D nq m (k + 1) Q R) (hR : Digs 18446744073709551616 R) (hm : k + (n + 2) ≤ m) : vs 18446744073709551616 (fun i => R.getD (k + i) 0) (n + 2) < 18446744073709551616 * D := by
  obtain ⟨r, rfl⟩ : ∃ r, m = k + ((n + 2) + r) := ⟨m - k - (n + 2), by omega⟩
  have h1 := h.up
  rw [vs_add, vs_add 18446744073709551616 (fun i => R.getD (k + i) 0)] at h1
  have p1 := pow_pos' (B := 18446744073709551616) (by decide) k
  have n1 := vs_nonneg (B := 18446744073709551616) (f := fun j => R.getD j 0) (n := k) (by decide) (fun i _ => (hR.getD (by decide) _).1)
  have n2 := vs_nonneg (B := 18446744073709551616) (f := fun i => R.getD (k + (n + 2 + i)) 0) (n := r) (by decide) (fun i _ => (hR.getD (by decide) _).1)
  have n3 : 0 ≤ 18446744073709551616 ^ k * (18446744073709551616 ^ (n + 2) * vs 18446744073709551616 (fun i => R.getD (k + (n + 2 + i)) 0) r) := mul_nonneg' (by omega) (mul_nonneg' (Int.le_of_lt (pow_pos' (by decide) _)) n2)
  have e5 : (18446744073709551616 : Int) ^ (k + 1) * D = 18446744073709551616 ^ k * (18446744073709551616 * D) := by rw [Int.pow_succ, Int.mul_assoc]
  rw [Int.mul_add, e5] at h1
  by_cases hc : vs 18446744073709551616 (fun i => R.getD (k + i) 0) (n + 2) < 18446744073709551616 * D
  · exact hc
  · have : 18446744073709551616 ^ k * (18446744073709551616 * D) ≤ 18446744073709551616 ^ k * vs 18446744073709551616 (fun i => R.getD (k + i) 0) (n + 2) := Int.mul_le_mul_of_nonneg_left (by omega) (by omega)
    omega

theorem stands_next {A D : Int} {nq m k n : Nat} {Q R M : List Int} {q : Int} (h : Stands A D nq m (k + 1) Q R) (hR : Digs 18446744073709551616 R) (hM : Digs 18446744073709551616 M) (hm : k + (n + 2) ≤ m) (hk : k < nq) (hQ : Q.length = nq) (hD : D ≤ 18446744073709551616 ^ (n + 1))
    (hs : ∀ j, j < k ∨ k + (n + 2) ≤ j → M.getD j 0 = R.getD j 0) (e : vs 18446744073709551616 (fun i => R.getD (k + i) 0) (n + 2) = q * D + vs 18446744073709551616 (fun i => M.getD (k + i) 0) (n + 2)) (hlt : vs 18446744073709551616 (fun i => M.getD (k + i) 0) (n + 2) < D) :
    Stands A D nq m k (Q.set k q) M := by
  have p1 := pow_pos' (B := 18446744073709551616) (by decide) k
  have e1 := vs_seg (B := 18446744073709551616) (N := M) (M := R) hm hs
  have e2 : vs 18446744073709551616 (fun i => M.getD (k + i) 0) (n + 2) - vs 18446744073709551616 (fun i => R.getD (k + i) 0) (n + 2) = - (q * D) := by omega
  rw [e2, Int.mul_neg] at e1
  refine ⟨?_, ?_, fun j hj => by rw [getD_set_ne (by omega)]; exact h.zero j (by omega)⟩
  · rw [vs_set hk (by omega), h.zero k (by omega), Int.sub_zero, Int.add_mul, Int.mul_assoc, h.eq]
    omega
  · obtain ⟨r, rfl⟩ : ∃ r, m = k + ((n + 2) + r) := ⟨m - k - (n + 2), by omega⟩
    have h1 := h.up
    rw [vs_add, vs_add 18446744073709551616 (fun i => R.getD (k + i) 0)] at h1
    have e3 : vs 18446744073709551616 (fun i => M.getD (k + (n + 2 + i)) 0) r = vs 18446744073709551616 (fun i => R.getD (k + (n + 2 + i)) 0) r := vs_congr (fun i _ => hs _ (by omega))
    have n1 := vs_nonneg (B := 18446744073709551616) (f := fun j => R.getD j 0) (n := k) (by decide) (fun i _ => (hR.getD (by decide) _).1)
    have n2 := vs_nonneg (B := 18446744073709551616) (f := fun i => R.getD (k + (n + 2 + i)) 0) (n := r) (by decide) (fun i _ => (hR.getD (by decide) _).1)
    have n4 := vs_nonneg (B := 18446744073709551616) (f := fun i => R.getD (k + i) 0) (n := n + 2) (by decide) (fun i _ => (hR.getD (by decide) _).1)
    have l1 := vs_lt (B := 18446744073709551616) (f := fun j => M.getD j 0) (n := k) (by decide) (fun i _ => hM.getD (by decide) _)
    have z : vs 18446744073709551616 (fun i => R.getD (k + (n + 2 + i)) 0) r = 0 := by
      by_cases hc : vs 18446744073709551616 (fun i => R.getD (k + (n + 2 + i)) 0) r = 0
      · exact hc
      · have f1 : 18446744073709551616 ^ (n + 2) * 1 ≤ 18446744073709551616 ^ (n + 2) * vs 18446744073709551616 (fun i => R.getD (k + (n + 2 + i)) 0) r := Int.mul_le_mul_of_nonneg_left (by omega) (Int.le_of_lt (pow_pos' (by decide) _))
        have f2 : 18446744073709551616 ^ k * (18446744073709551616 ^ (n + 2) * 1) ≤ 18446744073709551616 ^ k * (vs 18446744073709551616 (fun i => R.getD (k + i) 0) (n + 2) + 18446744073709551616 ^ (n + 2) * vs 18446744073709551616 (fun i => R.getD (k + (n + 2 + i)) 0) r) := Int.mul_le_mul_of_nonneg_left (by omega) (by omega)
        have f3 : 18446744073709551616 ^ (k + 1) * D ≤ 18446744073709551616 ^ (k + 1) * 18446744073709551616 ^ (n + 1) := Int.mul_le_mul_of_nonneg_left hD (Int.le_of_lt (pow_pos' (by decide) _))
        have e5 : (18446744073709551616 : Int) ^ (k + 1) * 18446744073709551616 ^ (n + 1) = 18446744073709551616 ^ k * 18446744073709551616 ^ (n + 2) := by rw [← Int.pow_add, ← Int.pow_add, show k + 1 + (n + 1) = k + (n + 2) by omega]
        rw [e5] at f3
        rw [Int.mul_one] at f2
        omega
    rw [vs_add, vs_add 18446744073709551616 (fun i => M.getD (k + i) 0), e3, z]
    have f4 : 18446744073709551616 ^ k * (vs 18446744073709551616 (fun i => M.getD (k + i) 0) (n + 2) + 1) ≤ 18446744073709551616 ^ k * D := Int.mul_le_mul_of_nonneg_left (by omega) (by omega)
    rw [Int.mul_add] at f4
    simp only [Int.mul_zero, Int.add_zero]
    omega

theorem ld_end {va vb Q R D A ls rem : Int} {s : Nat} (hA : A = va * 2 ^ s) (hD : D = vb * 2 ^ s) (e : A = Q * D + R) (hR : R < D) (hl : R = ls * 2 ^ s + rem) (h0 : 0 ≤ rem) (h1 : rem < 2 ^ s) : va = Q * vb + ls ∧ ls < vb := by
  have hpp := pow_pos' (B := 2) (by decide) s
  generalize (2 : Int) ^ s = p at *
  have e1 : (va - Q * vb - ls) * p = rem := by
    rw [Int.sub_mul, Int.sub_mul, ← hA, Int.mul_assoc, ← hD]; omega
  have hz : va - Q * vb - ls = 0 := by
    by_cases hc : va - Q * vb - ls = 0
    · exact hc
    · by_cases hp : 0 < va - Q * vb - ls
      · have : 1 * p ≤ (va - Q * vb - ls) * p := Int.mul_le_mul_of_nonneg_right (by omega) (by omega)
        omega
      · have : (va - Q * vb - ls) * p ≤ (-1) * p := Int.mul_le_mul_of_nonneg_right (by omega) (by omega)
        omega
  refine ⟨by omega, ?_⟩
  by_cases hc : ls < vb
  · exact hc
  · have : vb * p ≤ ls * p := Int.mul_le_mul_of_nonneg_right (by omega) (by omega)
    omega

theorem stands_start {xs ys R : List Int} {la n s nq : Nat} (hx : Digs 18446744073709551616 xs) (hy : Digs 18446744073709551616 ys) (hxl : xs.length = la) (hyl : ys.length = n + 1) (hnq : nq + n = la) (ht : 0 < ys.getD n 0) (hR : R.length = la + 1) (hv : val 18446744073709551616 R = val 18446744073709551616 xs * 2 ^ s) :
    Stands (val 18446744073709551616 xs * 2 ^ s) (val 18446744073709551616 ys * 2 ^ s) nq (la + 1) nq (noughts nq) R := by
  have p1 := pow_pos' (B := 2) (by decide) s
  have pn := pow_pos' (B := 18446744073709551616) (by decide) n
  have e := val_take_succ 18446744073709551616 ys n (by omega)
  rw [List.take_of_length_le (by omega)] at e
  have t := val_nonneg (B := 18446744073709551616) (by decide) (hy.take n)
  have f1 : 18446744073709551616 ^ n * 1 ≤ 18446744073709551616 ^ n * ys.getD n 0 := Int.mul_le_mul_of_nonneg_left (by omega) (by omega)
  have f2 := val_lt (B := 18446744073709551616) (by decide) hx
  have f3 : val 18446744073709551616 xs * 2 ^ s < 18446744073709551616 ^ xs.length * 2 ^ s := Int.mul_lt_mul_of_pos_right f2 p1
  have f4 : 18446744073709551616 ^ n * 2 ^ s ≤ val 18446744073709551616 ys * 2 ^ s := Int.mul_le_mul_of_nonneg_right (by omega) (by omega)
  have f5 : 18446744073709551616 ^ nq * (18446744073709551616 ^ n * 2 ^ s) ≤ 18446744073709551616 ^ nq * (val 18446744073709551616 ys * 2 ^ s) := Int.mul_le_mul_of_nonneg_left f4 (Int.le_of_lt (pow_pos' (by decide) _))
  rw [← Int.mul_assoc, ← Int.pow_add, hnq] at f5
  rw [hxl] at f3
  have hz : ∀ j, (noughts nq).getD j 0 = 0 := fun j => by simp only [noughts, List.getD, List.getElem?_replicate]; split <;> rfl
  refine ⟨?_, ?_, fun j _ => hz j⟩
  · rw [vs_zero _ (fun i _ => hz i), vs_all _ R (by omega), hv]; omega
  · rw [vs_all _ R (by omega), hv]; omega

theorem up_room {xs : List Int} {la s : Nat} (hx : Digs 18446744073709551616 xs) (hxl : xs.length = la) (hs : s ≤ 63) : val 18446744073709551616 xs * 2 ^ s < 18446744073709551616 ^ (la + 1) := by
  have p1 := pow_pos' (B := 2) (by decide) s
  have p2 := pow_pos' (B := 2) (by decide) (64 - s)
  have f2 := val_lt (B := 18446744073709551616) (by decide) hx
  have f3 : val 18446744073709551616 xs * 2 ^ s < 18446744073709551616 ^ xs.length * 2 ^ s := Int.mul_lt_mul_of_pos_right f2 p1
  have hpr := pr_eq (p := s) (by omega)
  have f4 : (2 : Int) ^ s * 1 ≤ 2 ^ s * 2 ^ (64 - s) := Int.mul_le_mul_of_nonneg_left (by omega) (by omega)
  have f5 : (18446744073709551616 : Int) ^ la * 2 ^ s ≤ 18446744073709551616 ^ la * 18446744073709551616 := Int.mul_le_mul_of_nonneg_left (by omega) (Int.le_of_lt (pow_pos' (by decide) _))
  rw [Int.pow_succ]
  rw [hxl] at f3
  omega

end Go.Proofs.Ytaiikhbfnfcalaa

namespace Go.Proofs.Ytaiikhbfnfcalaa
open Go.RowKit

/-- What is told of a quotient. -/
def ResDiv (zs ys qs rs : List Int) (err : Int) : Prop :=
  if rightB zs && rightB ys then (if ys.length = 0 then err = 3 ∧ qs = [] ∧ rs = [] else
    err = 0 ∧ Digs 18446744073709551616 qs ∧ Digs 18446744073709551616 rs ∧ rightB qs = true ∧ rightB rs = true ∧ val 18446744073709551616 qs = val 18446744073709551616 zs / val 18446744073709551616 ys ∧ val 18446744073709551616 rs = val 18446744073709551616 zs % val 18446744073709551616 ys)
  else err = 1 ∧ qs = [] ∧ rs = []

theorem ResDiv.unique {zs ys qs rs qs' rs' : List Int} {e f : Int} (h : ResDiv zs ys qs rs e) (h' : ResDiv zs ys qs' rs' f) : qs = qs' ∧ rs = rs' ∧ e = f := by
  unfold ResDiv at h h'
  split at h
  · rename_i hc
    rw [if_pos hc] at h'
    split at h
    · rename_i hc2
      rw [if_pos hc2] at h'
      obtain ⟨rfl, rfl, rfl⟩ := h
      obtain ⟨rfl, rfl, rfl⟩ := h'
      exact ⟨rfl, rfl, rfl⟩
    · rename_i hc2
      rw [if_neg hc2] at h'
      obtain ⟨rfl, d1, d2, t1, t2, v1, v2⟩ := h
      obtain ⟨rfl, d3, d4, t3, t4, v3, v4⟩ := h'
      exact ⟨val_inj (by decide) d1 d3 (right_top t1) (right_top t3) (v1.trans v3.symm), val_inj (by decide) d2 d4 (right_top t2) (right_top t4) (v2.trans v4.symm), rfl⟩
  · rename_i hc
    rw [if_neg hc] at h'
    obtain ⟨rfl, rfl, rfl⟩ := h
    obtain ⟨rfl, rfl, rfl⟩ := h'
    exact ⟨rfl, rfl, rfl⟩

theorem right_pos {zs : List Int} (hd : Digs 18446744073709551616 zs) (hr : rightB zs = true) (h : zs.length ≠ 0) : 0 < val 18446744073709551616 zs := by
  have := val_ge (B := 18446744073709551616) (by decide) hd (right_top hr) (by intro e; rw [e] at h; exact h rfl)
  have := pow_pos' (B := 18446744073709551616) (by decide) (zs.length - 1)
  omega

theorem resdiv_mk {zs ys qs rs : List Int} (hz : Digs 18446744073709551616 zs) (hy : Digs 18446744073709551616 ys) (hr : rightB zs = true) (hr' : rightB ys = true) (h0 : ys.length ≠ 0) (dq : Digs 18446744073709551616 qs) (dr : Digs 18446744073709551616 rs) (tq : Top qs) (tr : Top rs)
    (e : val 18446744073709551616 zs = val 18446744073709551616 qs * val 18446744073709551616 ys + val 18446744073709551616 rs) (hlt : val 18446744073709551616 rs < val 18446744073709551616 ys) : ResDiv zs ys qs rs 0 := by
  have hp := right_pos hy hr' h0
  have nr := val_nonneg (B := 18446744073709551616) (by decide) dr
  have nq := val_nonneg (B := 18446744073709551616) (by decide) dq
  have lz := val_lt_pow (B := 18446744073709551616) (by decide) hz (right_len hr)
  have ly := val_lt_pow (B := 18446744073709551616) (by decide) hy (right_len hr')
  have f : val 18446744073709551616 qs * 1 ≤ val 18446744073709551616 qs * val 18446744073709551616 ys := Int.mul_le_mul_of_nonneg_left (by omega) nq
  have l1 : qs.length ≤ 64 := len_le (B := 18446744073709551616) (by decide) dq tq (by omega)
  have l2 : rs.length ≤ 64 := len_le (B := 18446744073709551616) (by decide) dr tr (by omega)
  rw [ResDiv, hr, hr', Bool.and_true, if_pos rfl, if_neg h0]
  refine ⟨rfl, dq, dr, right_mk l1 tq, right_mk l2 tr, ?_, ?_⟩
  · rw [e, Int.add_comm, Int.add_mul_ediv_right _ _ (by omega), Int.ediv_eq_zero_of_lt nr hlt, Int.zero_add]
  · rw [e, Int.add_comm, Int.add_mul_emod_self_right, Int.emod_eq_of_lt nr hlt]

theorem resdiv_one {qs rs : List Int} {e : Int} (h : ResDiv [1] [1] qs rs e) : qs.length = 1 := by
  have h2 : ResDiv [1] [1] [1] [] 0 := resdiv_mk (by intro x hx; simp at hx; omega) (by intro x hx; simp at hx; omega) (by decide) (by decide) (by decide) (by intro x hx; simp at hx; omega) (Digs.nil _) (by simp [Top]) (.inl rfl) (by decide) (by decide)
  rw [(h.unique h2).1]; rfl

theorem res_fits {v : Int} {ls : List Int} {e : Int} (h : Res v ls e) (hv : v < 18446744073709551616 ^ 64) : e = 0 ∧ Digs 18446744073709551616 ls ∧ rightB ls = true ∧ val 18446744073709551616 ls = v := by
  rcases h with ⟨rfl, hd, ht, hl, hv'⟩ | ⟨_, _, zs, hd, ht, hv', hl⟩
  · exact ⟨rfl, hd, right_mk hl ht, hv'⟩
  · have := len_le (B := 18446744073709551616) (by decide) hd ht (k := 64) (by omega)
    omega

theorem Fresh.none (w0 w : World) : Fresh w0 w none 0 := fun hp => absurd hp (Nat.lt_irrefl _)

end Go.Proofs.Ytaiikhbfnfcalaa

/-
  Fractions: order turns nothing, what is added and subtracted is gone, the order is the difference's sign.
-/
import Derived.Test.YtfeapegdaffckaaRef8E
import Derived.Test.YtfeapegdaffckaaRef8D
namespace Go.Proofs.Ytfeapegdaffckaa
open Go.RowKit

theorem ar_comm (n : Bool) (xs ys : List Int) (m : Bool) (us vs : List Int) (T : Int) (D : Nat) : arF m us vs n xs ys T D = arF n xs ys m us vs T D := by unfold arF; rw [Bool.and_comm]
theorem addT_comm (n : Bool) (xs ys : List Int) (m : Bool) (us vs : List Int) : addT m us vs n xs ys = addT n xs ys m us vs := by unfold addT; rw [Int.add_comm]
theorem mulT_comm (n : Bool) (xs : List Int) (m : Bool) (us : List Int) : mulT m us n xs = mulT n xs m us := by unfold mulT; rw [Int.mul_comm]
theorem makF_ne {T : Int} {D : Nat} {e : Int} (h : makF T D = some e) : e ≠ 0 := by
  unfold makF at h
  split at h
  · cases h; decide
  · split at h
    · cases h
    · cases h; decide
theorem arF_ne {n : Bool} {xs ys : List Int} {m : Bool} {us vs : List Int} {T : Int} {D : Nat} {e : Int} (h : arF n xs ys m us vs T D = some e) : e ≠ 0 := by
  unfold arF at h
  split at h
  · exact makF_ne h
  · cases h; decide
theorem makF_none {T : Int} {D : Nat} (h : makF T D = none) : 0 < D ∧ (numF T D).natAbs < 18446744073709551616 ^ 16 ∧ denF T D < 18446744073709551616 ^ 16 := by
  unfold makF at h
  split at h
  · cases h
  · split at h
    · rename_i h1 h2; exact ⟨by omega, h2⟩
    · cases h
theorem makF_some {T : Int} {D : Nat} (hD : 0 < D) (h1 : (numF T D).natAbs < 18446744073709551616 ^ 16) (h2 : denF T D < 18446744073709551616 ^ 16) : makF T D = none := by
  unfold makF
  rw [if_neg (by omega), if_pos ⟨h1, h2⟩]
/-- What is told without a fault. -/
theorem told_ok8 {n : Bool} {xs ys : List Int} {m : Bool} {us vs : List Int} {T : Int} {D : Nat} {X : Int} {Y : Nat} {q : Bool} {ss rs : List Int} (h : ToldF (arF n xs ys m us vs T D) X Y q ss rs 0) : rightF n xs ys = true ∧ rightF m us vs = true ∧ makF T D = none ∧ IsW q ss X ∧ IsN rs Y := by
  rcases h with ⟨e, hf, _, h0⟩ | ⟨hf, ⟨h1, h2⟩, _⟩
  · exact absurd h0.symm (arF_ne hf)
  · unfold arF at hf
    cases hr : rightF n xs ys with
    | false => rw [hr] at hf; cases hf
    | true =>
      cases hr' : rightF m us vs with
      | false => rw [hr', Bool.and_false] at hf; cases hf
      | true => rw [hr, hr'] at hf; exact ⟨rfl, rfl, hf, h1, h2⟩
theorem right_of8 {n : Bool} {xs ys : List Int} {X : Int} {Y : Nat} (hW : IsW n xs X) (hN : IsN ys Y) (hx : X.natAbs < 18446744073709551616 ^ 16) (hy : Y < 18446744073709551616 ^ 16) (h0 : 0 < Y) (hg : Nat.gcd X.natAbs Y = 1) : rightF n xs ys = true := by
  have hm := hW.mag
  refine (rightF_iff n xs ys).2 ⟨hW.2.1, hN.2.1, hN.pos h0, (len_16 hN).2 hy, (len_16 hm).2 hx, ?_⟩
  rw [hm.nv, hN.nv]
  exact hg
theorem pow16c : ((18446744073709551616 ^ 16 : Nat) : Int) = 18446744073709551616 ^ 16 := by decide

/-- The sum less b is a. -/
theorem back_sub {x u : Int} {y v : Nat} (hy : 0 < y) (hv : 0 < v) (hg : Nat.gcd x.natAbs y = 1) :
    numF (numF (x * (v : Int) + u * (y : Int)) (y * v) * (v : Int) - u * (denF (x * (v : Int) + u * (y : Int)) (y * v) : Int)) (denF (x * (v : Int) + u * (y : Int)) (y * v) * v) = x ∧
      denF (numF (x * (v : Int) + u * (y : Int)) (y * v) * (v : Int) - u * (denF (x * (v : Int) + u * (y : Int)) (y * v) : Int)) (denF (x * (v : Int) + u * (y : Int)) (y * v) * v) = y := by
  have hD : 0 < y * v := Nat.mul_pos hy hv
  obtain ⟨T, hT⟩ : ∃ T, T = x * (v : Int) + u * (y : Int) := ⟨_, rfl⟩
  rw [← hT]
  have h1 := gF_num T (y * v)
  have h2 := gF_den T (y * v)
  have hYp := den_pos (x := T) hD
  obtain ⟨X, hX⟩ : ∃ X, X = numF T (y * v) := ⟨_, rfl⟩
  obtain ⟨Y, hY⟩ : ∃ Y, Y = denF T (y * v) := ⟨_, rfl⟩
  obtain ⟨g, hgg⟩ : ∃ g, g = gF T (y * v) := ⟨_, rfl⟩
  have hgp := gF_pos (x := T) hD
  rw [← hX, ← hgg] at h1
  rw [← hY, ← hgg] at h2
  rw [← hY] at hYp
  rw [← hgg] at hgp
  rw [← hX, ← hY]
  refine low_of (Nat.mul_pos hYp hv) hy hg ?_
  -- (X v - u Y) y = x (Y v), times g: (T v - u (y v)) y = x (y v) v
  refine Int.eq_of_mul_eq_mul_right (a := (g : Int)) (by omega) ?_
  have h2' : (Y : Int) * (g : Int) = (y : Int) * (v : Int) := by rw [← Int.natCast_mul, h2, Int.natCast_mul]
  have e1 : (X * (v : Int) - u * (Y : Int)) * (y : Int) * (g : Int) = (X * (g : Int) * (v : Int) - u * ((Y : Int) * (g : Int))) * (y : Int) := by
    rw [Int.sub_mul, Int.sub_mul, Int.sub_mul]
    congr 1
    · simp only [Int.mul_assoc, Int.mul_comm, Int.mul_left_comm]
    · simp only [Int.mul_assoc, Int.mul_comm, Int.mul_left_comm]
  have e2 : x * ((Y * v : Nat) : Int) * (g : Int) = x * ((Y : Int) * (g : Int)) * (v : Int) := by
    rw [Int.natCast_mul]
    simp only [Int.mul_assoc, Int.mul_comm, Int.mul_left_comm]
  rw [e1, e2, h1, h2', hT, Int.add_mul, Int.sub_mul, Int.add_mul]
  simp only [Int.mul_assoc, Int.mul_comm, Int.mul_left_comm]
  omega

theorem cmp_sign {P Q X : Int} (h1 : X < 0 ↔ P - Q < 0) (h2 : X = 0 ↔ P - Q = 0) : cmpZ P Q = if X = 0 then 0 else if X < 0 then -1 else 1 := by
  unfold cmpZ
  by_cases a : P < Q
  · have h3 : X < 0 := h1.2 (by omega)
    have h4 : ¬ X = 0 := by omega
    rw [if_pos a, if_neg h4, if_pos h3]
  · rw [if_neg a]
    by_cases b : Q < P
    · have h3 : ¬ X < 0 := fun k => by have := h1.1 k; omega
      have h4 : ¬ X = 0 := fun k => by have := h2.1 k; omega
      rw [if_pos b, if_neg h4, if_neg h3]
    · have h4 : X = 0 := h2.2 (by omega)
      rw [if_neg b, if_pos h4]
theorem IsW.empty {n : Bool} {xs : List Int} {X : Int} (h : IsW n xs X) : xs.length = 0 ↔ X = 0 := by
  have hm := h.mag
  have := nv_pos hm.1 hm.2.1
  rw [hm.nv] at this
  omega
end Go.Proofs.Ytfeapegdaffckaa

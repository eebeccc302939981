/-
  Draws from bytes, by definition: what is told of them, and what is left.
-/
import Derived.Test.YtambpcgdaogojaaByts
namespace Go.Proofs.Ytambpcgdaogojaa
open Go.RowKit

/-- So many tries of k bytes each, of which the rest by M counts, find nothing below n; the next one finds a number, or the bytes have ended: what is told (none: they have ended), and what is left. -/
def DrawnIn (k : Nat) (M n : Int) : Nat → List Int → Option Int → List Int → Prop
  | 0, L, r, R => (L.length < k ∧ r = none ∧ R = L) ∨ (k ≤ L.length ∧ val 256 (L.take k).reverse % M < n ∧ r = some (val 256 (L.take k).reverse % M) ∧ R = L.drop k)
  | t + 1, L, r, R => k ≤ L.length ∧ ¬ val 256 (L.take k).reverse % M < n ∧ DrawnIn k M n t (L.drop k) r R

/-- Tries of k bytes each, of which the rest by M counts, till one is below n: what is told (none: the bytes have ended), and what is left. -/
def Drawn (k : Nat) (M n : Int) (L : List Int) (r : Option Int) (R : List Int) : Prop := ∃ t, DrawnIn k M n t L r R

theorem Drawn.over {k : Nat} {M n : Int} {L : List Int} (h : L.length < k) : Drawn k M n L none L := ⟨0, .inl ⟨h, rfl, rfl⟩⟩
theorem Drawn.hit {k : Nat} {M n : Int} {L : List Int} (h : k ≤ L.length) (h' : val 256 (L.take k).reverse % M < n) : Drawn k M n L (some (val 256 (L.take k).reverse % M)) (L.drop k) := ⟨0, .inr ⟨h, h', rfl, rfl⟩⟩
theorem Drawn.miss {k : Nat} {M n : Int} {L : List Int} {r : Option Int} {R : List Int} (h : k ≤ L.length) (h' : ¬ val 256 (L.take k).reverse % M < n) (hd : Drawn k M n (L.drop k) r R) : Drawn k M n L r R := by
  obtain ⟨t, ht⟩ := hd
  exact ⟨t + 1, h, h', ht⟩

theorem Drawn.inv {k : Nat} {M n : Int} {L : List Int} {r : Option Int} {R : List Int} (h : Drawn k M n L r R) :
    (L.length < k ∧ r = none ∧ R = L) ∨ (k ≤ L.length ∧ val 256 (L.take k).reverse % M < n ∧ r = some (val 256 (L.take k).reverse % M) ∧ R = L.drop k) ∨ (k ≤ L.length ∧ ¬ val 256 (L.take k).reverse % M < n ∧ Drawn k M n (L.drop k) r R) := by
  obtain ⟨t, ht⟩ := h
  cases t with
  | zero =>
    rcases ht with h | h
    · exact .inl h
    · exact .inr (.inl h)
  | succ t => exact .inr (.inr ⟨ht.1, ht.2.1, t, ht.2.2⟩)

theorem DrawnIn.unique {k : Nat} {M n : Int} : ∀ {t : Nat} {L : List Int} {r : Option Int} {R : List Int}, DrawnIn k M n t L r R → ∀ {r' : Option Int} {R' : List Int}, Drawn k M n L r' R' → r = r' ∧ R = R'
  | 0, L, r, R, h, r', R', h' => by
    rcases h with ⟨h1, rfl, rfl⟩ | ⟨h1, h2, rfl, rfl⟩ <;> rcases h'.inv with ⟨k1, rfl, rfl⟩ | ⟨k1, k2, rfl, rfl⟩ | ⟨k1, k2, _⟩
    · exact ⟨rfl, rfl⟩
    · omega
    · omega
    · omega
    · exact ⟨rfl, rfl⟩
    · exact absurd h2 k2
  | t + 1, L, r, R, h, r', R', h' => by
    obtain ⟨h1, h2, h3⟩ := h
    rcases h'.inv with ⟨k1, rfl, rfl⟩ | ⟨k1, k2, rfl, rfl⟩ | ⟨k1, k2, k3⟩
    · omega
    · exact absurd k2 h2
    · exact DrawnIn.unique h3 k3

theorem Drawn.unique {k : Nat} {M n : Int} {L : List Int} {r : Option Int} {R : List Int} (h : Drawn k M n L r R) {r' : Option Int} {R' : List Int} (h' : Drawn k M n L r' R') : r = r' ∧ R = R' := by
  obtain ⟨t, ht⟩ := h
  exact DrawnIn.unique ht h'

theorem DrawnIn.hangs {k : Nat} {M n : Int} : ∀ {t : Nat} {L : List Int} {x : Int} {R : List Int}, DrawnIn k M n t L (some x) R → ∃ U, L = U ++ R ∧ ∀ Q, Drawn k M n (U ++ Q) (some x) Q
  | 0, L, x, R, h => by
    rcases h with ⟨_, e, _⟩ | ⟨h1, h2, e, rfl⟩
    · cases e
    · cases e
      refine ⟨L.take k, (List.take_append_drop k L).symm, fun Q => ?_⟩
      have hl : (L.take k).length = k := by simp; omega
      have e1 : (L.take k ++ Q).take k = L.take k := by rw [List.take_append_of_le_length (by omega), List.take_of_length_le (by omega)]
      have e2 : (L.take k ++ Q).drop k = Q := by
        have := List.drop_left (l₁ := L.take k) (l₂ := Q)
        rw [hl] at this; exact this
      have := Drawn.hit (M := M) (n := n) (L := L.take k ++ Q) (k := k) (by rw [List.length_append]; omega) (by rw [e1]; exact h2)
      rw [e1, e2] at this
      exact this
  | t + 1, L, x, R, h => by
    obtain ⟨h1, h2, h3⟩ := h
    obtain ⟨U, eU, hU⟩ := DrawnIn.hangs h3
    have hl : (L.take k).length = k := by simp; omega
    refine ⟨L.take k ++ U, by rw [List.append_assoc, ← eU, List.take_append_drop], fun Q => ?_⟩
    rw [List.append_assoc]
    have e1 : (L.take k ++ (U ++ Q)).take k = L.take k := by rw [List.take_append_of_le_length (by omega), List.take_of_length_le (by omega)]
    have e2 : (L.take k ++ (U ++ Q)).drop k = U ++ Q := by
      have := List.drop_left (l₁ := L.take k) (l₂ := U ++ Q)
      rw [hl] at this; exact this
    exact Drawn.miss (by rw [List.length_append]; omega) (by rw [e1]; exact h2) (by rw [e2]; exact hU Q)

theorem Drawn.hangs {k : Nat} {M n : Int} {L : List Int} {r : Option Int} {R : List Int} (h : Drawn k M n L r R) (x : Int) (hx : r = some x) : ∃ U, L = U ++ R ∧ ∀ Q, Drawn k M n (U ++ Q) (some x) Q := by
  subst hx
  obtain ⟨t, ht⟩ := h
  exact DrawnIn.hangs ht

theorem DrawnIn.left {k : Nat} {M n : Int} : ∀ {t : Nat} {L : List Int} {r : Option Int} {R : List Int}, DrawnIn k M n t L r R → R.length ≤ L.length
  | 0, L, r, R, h => by
    rcases h with ⟨_, _, rfl⟩ | ⟨_, _, _, rfl⟩
    · exact Nat.le_refl _
    · simp
  | t + 1, L, r, R, h => by
    have := DrawnIn.left h.2.2
    simp at this
    omega
theorem Drawn.left {k : Nat} {M n : Int} {L : List Int} {r : Option Int} {R : List Int} (h : Drawn k M n L r R) : R.length ≤ L.length := by
  obtain ⟨t, ht⟩ := h
  exact DrawnIn.left ht

theorem DrawnIn.told {k : Nat} {M n : Int} (hM : 0 < M) : ∀ {t : Nat} {L : List Int} {x : Int} {R : List Int}, DrawnIn k M n t L (some x) R → 0 ≤ x ∧ x < n
  | 0, L, x, R, h => by
    rcases h with ⟨_, e, _⟩ | ⟨_, h2, e, _⟩
    · cases e
    · cases e; exact ⟨Int.emod_nonneg _ (by omega), h2⟩
  | t + 1, L, x, R, h => DrawnIn.told hM h.2.2
theorem Drawn.told {k : Nat} {M n : Int} {L : List Int} {r : Option Int} {R : List Int} (h : Drawn k M n L r R) (hM : 0 < M) (x : Int) (hx : r = some x) : 0 ≤ x ∧ x < n := by
  subst hx
  obtain ⟨t, ht⟩ := h
  exact DrawnIn.told hM ht

/-- What is told of a take of n bytes. -/
def ResTake (L : List Int) (n : Int) (bs : List Int) (err : Int) (R : List Int) : Prop :=
  if n < 0 ∨ 65536 < n then bs = [] ∧ err = 1 ∧ R = L else if (L.length : Int) < n then bs = [] ∧ err = 7 ∧ R = L else bs = L.take n.toNat ∧ err = 0 ∧ R = L.drop n.toNat

theorem ResTake.unique {L : List Int} {n : Int} {bs cs : List Int} {e f : Int} {R S : List Int} (h : ResTake L n bs e R) (h' : ResTake L n cs f S) : bs = cs ∧ e = f ∧ R = S := by
  unfold ResTake at h h'
  split at h
  · rename_i hc
    rw [if_pos hc] at h'
    obtain ⟨rfl, rfl, rfl⟩ := h
    obtain ⟨rfl, rfl, rfl⟩ := h'
    exact ⟨rfl, rfl, rfl⟩
  · rename_i hc
    rw [if_neg hc] at h'
    split at h
    · rename_i hc2
      rw [if_pos hc2] at h'
      obtain ⟨rfl, rfl, rfl⟩ := h
      obtain ⟨rfl, rfl, rfl⟩ := h'
      exact ⟨rfl, rfl, rfl⟩
    · rename_i hc2
      rw [if_neg hc2] at h'
      obtain ⟨rfl, rfl, rfl⟩ := h
      obtain ⟨rfl, rfl, rfl⟩ := h'
      exact ⟨rfl, rfl, rfl⟩

theorem ResTake.ok {L : List Int} {n : Nat} {bs : List Int} {e : Int} {R : List Int} (h : ResTake L n bs e R) (h1 : n ≤ L.length) (h2 : n ≤ 65536) : bs = L.take n ∧ e = 0 ∧ R = L.drop n := by
  unfold ResTake at h
  rw [if_neg (by omega), if_neg (by omega)] at h
  simpa using h

theorem ResTake.over {L : List Int} {n : Nat} {bs : List Int} {e : Int} {R : List Int} (h : ResTake L n bs e R) (h1 : L.length < n) (h2 : n ≤ 65536) : bs = [] ∧ e = 7 ∧ R = L := by
  unfold ResTake at h
  rw [if_neg (by omega), if_pos (by omega)] at h
  exact h

/-- What is told of a draw below the number of the limbs zs. -/
def ResBelow (zs L ls : List Int) (err : Int) (R : List Int) : Prop :=
  if rightB zs = true ∧ 0 < zs.length then
    ∃ ms, Digs 18446744073709551616 ms ∧ Top ms ∧ val 18446744073709551616 ms = val 18446744073709551616 zs - 1 ∧
      (if bitsZ ms = 0 then ls = [] ∧ err = 0 ∧ R = L else
        ∃ r, Drawn ((bitsZ ms + 7) / 8).toNat (2 ^ (bitsZ ms).toNat) (val 18446744073709551616 zs) L r R ∧ ((r = none ∧ ls = [] ∧ err = 7) ∨ (∃ x, r = some x ∧ Res x ls err)))
  else ls = [] ∧ err = 1 ∧ R = L

theorem ResBelow.unique {zs L ls ks : List Int} {e f : Int} {R S : List Int} (h : ResBelow zs L ls e R) (h' : ResBelow zs L ks f S) : ls = ks ∧ e = f ∧ R = S := by
  unfold ResBelow at h h'
  split at h
  · rename_i hc
    rw [if_pos hc] at h'
    obtain ⟨ms, d1, t1, v1, h⟩ := h
    obtain ⟨ns, d2, t2, v2, h'⟩ := h'
    have em : ms = ns := val_inj (by decide) d1 d2 t1 t2 (v1.trans v2.symm)
    subst em
    split at h
    · rename_i hc2
      rw [if_pos hc2] at h'
      obtain ⟨rfl, rfl, rfl⟩ := h
      obtain ⟨rfl, rfl, rfl⟩ := h'
      exact ⟨rfl, rfl, rfl⟩
    · rename_i hc2
      rw [if_neg hc2] at h'
      obtain ⟨r, k1, m1⟩ := h
      obtain ⟨q, k2, m2⟩ := h'
      obtain ⟨e1, e2⟩ := k1.unique k2
      subst e1
      subst e2
      rcases m1 with ⟨rfl, rfl, rfl⟩ | ⟨x, rfl, hx⟩
      · rcases m2 with ⟨_, rfl, rfl⟩ | ⟨y, ey, _⟩
        · exact ⟨rfl, rfl, rfl⟩
        · cases ey
      · rcases m2 with ⟨ey, _⟩ | ⟨y, ey, hy⟩
        · cases ey
        · cases ey
          obtain ⟨a1, a2⟩ := hx.unique hy
          exact ⟨a1, a2, rfl⟩
  · rename_i hc
    rw [if_neg hc] at h'
    obtain ⟨rfl, rfl, rfl⟩ := h
    obtain ⟨rfl, rfl, rfl⟩ := h'
    exact ⟨rfl, rfl, rfl⟩

/-- The first byte's lowest bits alone: the number's lowest bits. -/
theorem low_bits {y : Int} {r : List Int} {s : Nat} (hr : Digs 256 r) : val 256 (y % 2 ^ s :: r).reverse = val 256 (y :: r).reverse % 2 ^ (8 * r.length + s) := by
  have e : ∀ z : Int, val 256 (z :: r).reverse = val 256 r.reverse + 256 ^ r.length * z := fun z => by
    rw [List.reverse_cons, val_append, List.length_reverse]; simp [val]
  rw [e, e]
  have h0 := val_nonneg (B := 256) (by decide) (zs := r.reverse) (fun x hx => hr x (List.mem_reverse.1 hx))
  have h1 := val_lt (B := 256) (by decide) (zs := r.reverse) (fun x hx => hr x (List.mem_reverse.1 hx))
  rw [List.length_reverse] at h1
  have e2 : (256 : Int) ^ r.length = 2 ^ (8 * r.length) := by rw [show (256 : Int) = 2 ^ 8 by decide, ← Int.pow_mul]
  rw [e2] at h1 ⊢
  have hp := pow_pos' (B := 2) (by decide) (8 * r.length)
  have hq := pow_pos' (B := 2) (by decide) s
  generalize val 256 r.reverse = v at *
  generalize hP : (2 : Int) ^ (8 * r.length) = P at *
  rw [Int.pow_add, hP]
  generalize (2 : Int) ^ s = S at *
  have e3 := Int.emod_add_mul_ediv y S
  have e4 : v + P * y = v + P * (y % S) + P * S * (y / S) := by
    have : P * y = P * (y % S) + P * (S * (y / S)) := by rw [← Int.mul_add, e3]
    rw [this, Int.mul_assoc]; omega
  rw [e4, Int.add_mul_emod_self_left]
  have b1 := Int.emod_nonneg y (show S ≠ 0 by omega)
  have b2 := Int.emod_lt_of_pos y hq
  have b3 : P * (y % S) ≤ P * (S - 1) := Int.mul_le_mul_of_nonneg_left (by omega) (by omega)
  have b4 : 0 ≤ P * (y % S) := Int.mul_nonneg (by omega) b1
  rw [Int.mul_sub] at b3
  exact (Int.emod_eq_of_lt (by omega) (by omega)).symm
end Go.Proofs.Ytambpcgdaogojaa

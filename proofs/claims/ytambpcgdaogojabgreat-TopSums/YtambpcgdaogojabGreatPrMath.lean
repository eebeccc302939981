/-
  What is tried as a divisor: 2, 3, and those beside a multiple of 6; products by a word; the highest and the lowest bit set.
-/
import Derived.Test.YtambpcgdaogojabGreatP5Math
namespace Go.Proofs.YtambpcgdaogojabGreat
open Go.RowKit

/-- The next one to be tried. -/
def behindN (d : Nat) : Nat := if d = 2 then 3 else if d % 6 = 1 then d + 4 else d + 2
/-- The k-th one that is tried. -/
def tryAt : Nat → Nat
  | 0 => 2
  | k + 1 => behindN (tryAt k)

theorem behindN_gt (d : Nat) : d + 1 ≤ behindN d ∧ behindN d ≤ d + 4 := by
  unfold behindN
  split
  · omega
  · split <;> omega
theorem tryAt_ge (k : Nat) : k + 2 ≤ tryAt k := by
  induction k with
  | zero => exact Nat.le_refl _
  | succ k ih => have := behindN_gt (tryAt k); show _ ≤ behindN _; omega
theorem tryAt_six (k : Nat) : tryAt (k + 2) % 6 = 1 ∨ tryAt (k + 2) % 6 = 5 := by
  induction k with
  | zero => right; decide
  | succ k ih =>
    have h2 := tryAt_ge (k + 2)
    show behindN (tryAt (k + 2)) % 6 = 1 ∨ behindN (tryAt (k + 2)) % 6 = 5
    unfold behindN
    rw [if_neg (by omega)]
    split <;> omega
/-- Whatever is below the k-th has a divisor among those ahead of it. -/
theorem tryAt_all (k : Nat) : ∀ j, 2 ≤ j → j < tryAt k → ∃ i, i < k ∧ tryAt i ∣ j := by
  induction k with
  | zero => intro j h1 h2; have : tryAt 0 = 2 := rfl; omega
  | succ k ih =>
    intro j h1 h2
    by_cases hlt : j < tryAt k
    · obtain ⟨i, hi, hd⟩ := ih j h1 hlt
      exact ⟨i, by omega, hd⟩
    by_cases he : j = tryAt k
    · exact ⟨k, by omega, by rw [he]; exact Nat.dvd_refl _⟩
    match k, hlt, he, h2 with
    | 0, hlt, he, h2 => have e0 : tryAt 0 = 2 := rfl; have e1 : tryAt (0 + 1) = 3 := rfl; omega
    | 1, hlt, he, h2 =>
      have e1 : tryAt 1 = 3 := rfl
      have e2 : tryAt (1 + 1) = 5 := rfl
      exact ⟨0, by omega, by show 2 ∣ j; omega⟩
    | k + 2, hlt, he, h2 =>
      have h6 := tryAt_six k
      have hge := tryAt_ge (k + 2)
      have hb : tryAt (k + 2 + 1) = behindN (tryAt (k + 2)) := rfl
      rw [hb] at h2
      unfold behindN at h2
      rw [if_neg (by omega)] at h2
      by_cases hev : j % 2 = 0
      · exact ⟨0, by omega, by show 2 ∣ j; omega⟩
      · refine ⟨1, by omega, ?_⟩
        show 3 ∣ j
        split at h2 <;> omega

/-- Nothing that was tried divides n. -/
def NoneTo (n k : Nat) : Prop := ∀ i, i < k → ¬ tryAt i ∣ n
theorem NoneTo.below {n k : Nat} (h : NoneTo n k) : ∀ j, 2 ≤ j → j < tryAt k → ¬ j ∣ n := fun j h1 h2 h3 => by
  obtain ⟨i, hi, hd⟩ := tryAt_all k j h1 h2
  exact h i hi (Nat.dvd_trans hd h3)
theorem NoneTo.succ {n k : Nat} (h : NoneTo n k) (h' : ¬ tryAt k ∣ n) : NoneTo n (k + 1) := fun i hi => by
  by_cases e : i = k
  · rw [e]; exact h'
  · exact h i (by omega)
theorem NoneTo.found {n k : Nat} (h : NoneTo n k) (hd : tryAt k ∣ n) (hs : tryAt k * tryAt k ≤ n) : LeastOf n (tryAt k) := .inl ⟨by have := tryAt_ge k; omega, hs, hd, h.below⟩
theorem NoneTo.over {n k : Nat} (h : NoneTo n k) (hs : n < tryAt k * tryAt k) : LeastOf n n := .inr ⟨rfl, fun j h1 h2 => h.below j h1 (by
  rcases Nat.lt_or_ge j (tryAt k) with e | e
  · exact e
  · have := Nat.mul_le_mul e e
    omega)⟩
theorem tryAt_bd {n k : Nat} (hs : tryAt k * tryAt k ≤ n) (hn : n < 1099511627776) : tryAt k < 1048576 ∧ k < 1048576 := by
  have hk := tryAt_ge k
  have : tryAt k < 1048576 := by
    rcases Nat.lt_or_ge (tryAt k) 1048576 with h' | h'
    · exact h'
    · have := Nat.mul_le_mul h' h'
      omega
  exact ⟨this, by omega⟩

/-- What may be tried. -/
abbrev Tried := { d : Nat // 2 ≤ d ∧ d < 1099511627776 }
/-- The first k of those that are tried. -/
def Firsts (k : Nat) (l : List Tried) : Prop := l.map Subtype.val = (List.range k).map tryAt
theorem Firsts.nil : Firsts 0 [] := rfl
theorem Firsts.snoc {k : Nat} {l : List Tried} (h : Firsts k l) (x : Tried) (hx : x.1 = tryAt k) : Firsts (k + 1) (l ++ [x]) := by
  unfold Firsts at *
  rw [List.map_append, List.range_succ, List.map_append, h]
  simp [hx]
theorem Firsts.len {k : Nat} {l : List Tried} (h : Firsts k l) : l.length = k := by
  have := congrArg List.length h
  simpa using this
theorem Firsts.none {n k : Nat} {l : List Tried} (h : Firsts k l) (hn : ∀ x ∈ l, ¬ x.1 ∣ n) : NoneTo n k := fun i hi hd => by
  have hm : tryAt i ∈ l.map Subtype.val := by rw [h]; exact List.mem_map.2 ⟨i, List.mem_range.2 hi, rfl⟩
  obtain ⟨x, hx, he⟩ := List.mem_map.1 hm
  exact hn x hx (by rw [he]; exact hd)
theorem Firsts.last {k : Nat} {l : List Tried} {x : Tried} (h : Firsts (k + 1) (l ++ [x])) : Firsts k l ∧ x.1 = tryAt k := by
  unfold Firsts at *
  rw [List.map_append, List.range_succ, List.map_append] at h
  obtain ⟨h1, h2⟩ := List.append_inj' h rfl
  exact ⟨h1, by simpa using h2⟩

theorem candidate_or {T x : Nat} {m : Nat} (hT : T = 2 ^ m) : (x &&& (T - 1) ||| T) ||| 1 = candidate T x := by
  subst hT
  rw [Nat.and_two_pow_sub_one_eq_mod]
  have hlt : x % 2 ^ m < 2 ^ m := Nat.mod_lt _ (Nat.pow_pos (by decide))
  have e1 : x % 2 ^ m ||| 2 ^ m = 2 ^ m + x % 2 ^ m := by
    rw [Nat.or_comm]
    have := (Nat.two_pow_add_eq_or_of_lt hlt 1).symm
    simpa using this
  rw [e1, Nat.add_comm]
  unfold candidate
  obtain ⟨y, hy⟩ : ∃ y, y = x % 2 ^ m + 2 ^ m := ⟨_, rfl⟩
  rw [← hy]
  have e2 : y ||| 1 = y / 2 * 2 + 1 := by
    have h0 := Nat.div_add_mod y 2
    have h1 : (1 : Nat) < 2 ^ 1 := by decide
    apply Nat.eq_of_testBit_eq
    intro i
    rw [Nat.testBit_or]
    cases i with
    | zero => simp
    | succ i =>
      have e3 : (y / 2 * 2 + 1) / 2 = y / 2 := by omega
      rw [Nat.testBit_succ, Nat.testBit_succ, Nat.testBit_succ, e3]
      simp
  rw [e2]
  split <;> omega
end Go.Proofs.YtambpcgdaogojabGreat

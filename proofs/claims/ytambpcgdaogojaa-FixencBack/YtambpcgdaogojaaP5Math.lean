/-
  Primes: the least divisor, witnesses, searches, keys, by definition.
-/
import Derived.Test.YtambpcgdaogojaaFermat
import Derived.Test.YtambpcgdaogojaaTMath
namespace Go.Proofs.Ytambpcgdaogojaa
open Go.RowKit

/-- d is what the search for the least divisor of n tells. -/
def LeastOf (n d : Nat) : Prop := (2 ≤ d ∧ d * d ≤ n ∧ d ∣ n ∧ ∀ j, 2 ≤ j → j < d → ¬ j ∣ n) ∨ (d = n ∧ ∀ j, 2 ≤ j → j * j ≤ n → ¬ j ∣ n)

theorem LeastOf.unique {n d e : Nat} (h : LeastOf n d) (h' : LeastOf n e) : d = e := by
  rcases h with ⟨h1, h2, h3, h4⟩ | ⟨h1, h2⟩ <;> rcases h' with ⟨k1, k2, k3, k4⟩ | ⟨k1, k2⟩
  · rcases Nat.lt_trichotomy d e with h | h | h
    · exact absurd h3 (k4 d h1 h)
    · exact h
    · exact absurd k3 (h4 e k1 h)
  · exact absurd h3 (k2 d h1 h2)
  · exact absurd k3 (h2 e k1 k2)
  · omega

/-- Of 2 and more it is the least divisor above 1, and a prime. -/
theorem LeastOf.least {n d : Nat} (h : LeastOf n d) (h2 : 2 ≤ n) : 2 ≤ d ∧ d ∣ n ∧ ∀ j, 2 ≤ j → j ∣ n → d ≤ j := by
  rcases h with ⟨h1, _, h3, h4⟩ | ⟨rfl, h4⟩
  · refine ⟨h1, h3, fun j k1 k2 => ?_⟩
    rcases Nat.lt_or_ge j d with h | h
    · exact absurd k2 (h4 j k1 h)
    · exact h
  · refine ⟨h2, Nat.dvd_refl _, fun j k1 k2 => ?_⟩
    rcases Nat.lt_or_ge j d with h | h
    · exfalso
      obtain ⟨m, hm⟩ := k2
      have hm2 : 2 ≤ m := by
        rcases Nat.lt_or_ge m 2 with e | e
        · have : m = 0 ∨ m = 1 := by omega
          rcases this with rfl | rfl <;> omega
        · exact e
      rcases Nat.le_total j m with e | e
      · exact h4 j k1 (by rw [hm]; exact Nat.mul_le_mul (Nat.le_refl _) e) ⟨m, hm⟩
      · exact h4 m hm2 (by rw [hm]; exact Nat.mul_le_mul e (Nat.le_refl _)) ⟨j, by rw [hm, Nat.mul_comm]⟩
    · exact h

theorem LeastOf.prime {n d : Nat} (h : LeastOf n d) (h2 : 2 ≤ n) : Pr d := by
  obtain ⟨a, b, c⟩ := h.least h2
  refine ⟨a, fun j k1 k2 k3 => ?_⟩
  have := c j k1 (Nat.dvd_trans k3 b)
  omega

theorem LeastOf.isPr {n d : Nat} (h : LeastOf n d) (h2 : 2 ≤ n) : d = n ↔ Pr n := by
  constructor
  · rintro rfl; exact h.prime h2
  · intro hp
    obtain ⟨a, b, c⟩ := h.least h2
    have hle := Nat.le_of_dvd (by omega) b
    rcases Nat.lt_or_ge d n with e | e
    · exact absurd b (hp.2 d a e)
    · omega

/-- Is it a prime? -/
def prB (n : Nat) : Bool := decide (2 ≤ n) && (List.range n).all (fun d => decide (d < 2) || decide (n % d ≠ 0))

theorem prB_iff (n : Nat) : prB n = true ↔ Pr n := by
  unfold prB Pr
  rw [Bool.and_eq_true, decide_eq_true_iff, List.all_eq_true]
  refine and_congr_right fun _ => ⟨fun h d h1 h2 h3 => ?_, fun h d hd => ?_⟩
  · have := h d (List.mem_range.2 h2)
    rw [Bool.or_eq_true, decide_eq_true_iff, decide_eq_true_iff] at this
    rcases this with e | e
    · omega
    · exact e (Nat.mod_eq_zero_of_dvd h3)
  · rw [Bool.or_eq_true, decide_eq_true_iff, decide_eq_true_iff]
    by_cases e : d < 2
    · exact .inl e
    · exact .inr fun k => h d (by omega) (List.mem_range.1 hd) (Nat.dvd_of_mod_eq_zero k)

theorem prB_of {n : Nat} (h : Pr n) : prB n = true := (prB_iff n).2 h
theorem prB_not {n : Nat} (h : ¬ Pr n) : prB n = false := by
  cases e : prB n with
  | false => rfl
  | true => exact absurd ((prB_iff n).1 e) h

theorem pr_two {n : Nat} (h : Pr n) : 2 ≤ n := h.1

/-- a proves that n is no prime. -/
def Wit (a n : Nat) : Prop := ∃ d s, n - 1 = d * 2 ^ s ∧ d % 2 = 1 ∧ 1 < a ^ d % n ∧ ∀ i, i < s → a ^ (d * 2 ^ i) % n ≠ n - 1

theorem odd_part {d s e t : Nat} (h : d * 2 ^ s = e * 2 ^ t) (hd : d % 2 = 1) (he : e % 2 = 1) : d = e ∧ s = t := by
  induction s generalizing t with
  | zero =>
    cases t with
    | zero => simp at h; exact ⟨h, rfl⟩
    | succ t =>
      exfalso
      rw [Nat.pow_zero, Nat.mul_one, Nat.pow_succ, ← Nat.mul_assoc] at h
      omega
  | succ s ih =>
    cases t with
    | zero =>
      exfalso
      rw [Nat.pow_zero, Nat.mul_one, Nat.pow_succ, ← Nat.mul_assoc] at h
      omega
    | succ t =>
      rw [Nat.pow_succ, Nat.pow_succ, ← Nat.mul_assoc, ← Nat.mul_assoc] at h
      obtain ⟨a, b⟩ := ih (t := t) (by omega)
      exact ⟨a, by omega⟩

theorem wit_iff {a n d s : Nat} (h : n - 1 = d * 2 ^ s) (hd : d % 2 = 1) : Wit a n ↔ (1 < a ^ d % n ∧ ∀ i, i < s → a ^ (d * 2 ^ i) % n ≠ n - 1) := by
  constructor
  · rintro ⟨e, t, h1, h2, h3, h4⟩
    obtain ⟨rfl, rfl⟩ := odd_part (h.symm.trans h1) hd h2
    exact ⟨h3, h4⟩
  · rintro ⟨h3, h4⟩
    exact ⟨d, s, h, hd, h3, h4⟩

theorem root_one {p x : Nat} (h : Pr p) (hx : x < p) (h2 : x * x % p = 1) : x = 1 ∨ x = p - 1 := by
  have hp := h.1
  rcases Nat.eq_zero_or_pos x with rfl | h0
  · simp at h2
  by_cases h1 : x = 1
  · exact .inl h1
  right
  -- p divides (x - 1) (x + 1)
  have hdv : p ∣ (x - 1) * (x + 1) := by
    have e : (x - 1) * (x + 1) = x * x - 1 := by
      obtain ⟨y, rfl⟩ : ∃ y, x = y + 1 := ⟨x - 1, by omega⟩
      simp only [Nat.add_sub_cancel, Nat.mul_add, Nat.add_mul]
      omega
    rw [e]
    refine ⟨x * x / p, ?_⟩
    have := Nat.div_add_mod (x * x) p
    rw [h2] at this
    omega
  have hco : Nat.Coprime p (x - 1) := h.coprime (by rw [Nat.mod_eq_of_lt (by omega)]; omega)
  have hd := hco.dvd_of_dvd_mul_left hdv
  have hle := Nat.le_of_dvd (by omega) hd
  omega

theorem pow_mod_sq (a n k : Nat) : a ^ (k * 2) % n = (a ^ k % n) * (a ^ k % n) % n := by
  rw [Nat.pow_mul, Nat.pow_two, Nat.mul_mod]

/-- No prime has a witness. -/
theorem honest {a p : Nat} (h : Pr p) (h3 : 3 ≤ p) : ¬ Wit a p := by
  rintro ⟨d, s, h1, h2, h4, h5⟩
  have hd0 : 0 < d := by omega
  have ha : a % p ≠ 0 := by
    intro e
    have : a ^ d % p = 0 := by
      rw [Nat.pow_mod, e, Nat.zero_pow hd0]; simp
    omega
  have hf := fermat h ha
  rw [h1] at hf
  have key : ∀ t, t ≤ s → a ^ (d * 2 ^ (s - t)) % p = 1 := by
    intro t
    induction t with
    | zero => intro _; simpa using hf
    | succ t ih =>
      intro ht
      have e := ih (by omega)
      rw [show s - t = (s - (t + 1)) + 1 by omega, Nat.pow_succ, ← Nat.mul_assoc, pow_mod_sq] at e
      rcases root_one h (Nat.mod_lt _ (by omega)) e with r | r
      · exact r
      · exact absurd r (h5 _ (by omega))
  have e := key s (Nat.le_refl _)
  simp at e
  omega

/-- The number that a try's bytes tell: so many bits, the highest and the lowest set. -/
def candidate (T : Nat) (x : Nat) : Nat := if (x % T + T) % 2 = 0 then x % T + T + 1 else x % T + T

/-- Tries of k bytes each, as many as are left: what is told (the number and the error), and what is left. -/
def Srch (k T : Nat) : Nat → List Int → Nat → Int → List Int → Prop
  | 0, L, p, e, R => p = 0 ∧ e = 8 ∧ R = L
  | t + 1, L, p, e, R => (L.length < k ∧ p = 0 ∧ e = 7 ∧ R = L) ∨ (k ≤ L.length ∧ Pr (candidate T (val 256 (L.take k).reverse).toNat) ∧ p = candidate T (val 256 (L.take k).reverse).toNat ∧ e = 0 ∧ R = L.drop k) ∨
      (k ≤ L.length ∧ ¬ Pr (candidate T (val 256 (L.take k).reverse).toNat) ∧ Srch k T t (L.drop k) p e R)

theorem Srch.unique {k T : Nat} : ∀ {t : Nat} {L : List Int} {p : Nat} {e : Int} {R : List Int} {q : Nat} {f : Int} {S : List Int}, Srch k T t L p e R → Srch k T t L q f S → p = q ∧ e = f ∧ R = S
  | 0, L, p, e, R, q, f, S, h, h' => by
    obtain ⟨rfl, rfl, rfl⟩ := h
    obtain ⟨rfl, rfl, rfl⟩ := h'
    exact ⟨rfl, rfl, rfl⟩
  | t + 1, L, p, e, R, q, f, S, h, h' => by
    rcases h with ⟨h1, rfl, rfl, rfl⟩ | ⟨h1, h2, rfl, rfl, rfl⟩ | ⟨h1, h2, h3⟩ <;> rcases h' with ⟨k1, rfl, rfl, rfl⟩ | ⟨k1, k2, rfl, rfl, rfl⟩ | ⟨k1, k2, k3⟩
    · exact ⟨rfl, rfl, rfl⟩
    · omega
    · omega
    · omega
    · exact ⟨rfl, rfl, rfl⟩
    · exact absurd h2 k2
    · omega
    · exact absurd k2 h2
    · exact Srch.unique h3 k3

theorem candidate_bd {T x : Nat} (hT : T % 2 = 0) (h0 : 0 < T) : T ≤ candidate T x ∧ candidate T x < 2 * T := by
  unfold candidate
  have := Nat.mod_lt x h0
  split <;> omega

/-- What is drawn is a prime of as many bits as asked for. -/
theorem Srch.told {k T : Nat} (hT : T % 2 = 0) (h0 : 0 < T) : ∀ {t : Nat} {L : List Int} {p : Nat} {e : Int} {R : List Int}, Srch k T t L p e R → e = 0 → Pr p ∧ T ≤ p ∧ p < 2 * T
  | 0, L, p, e, R, h, he => by obtain ⟨_, rfl, _⟩ := h; cases he
  | t + 1, L, p, e, R, h, he => by
    rcases h with ⟨_, _, rfl, _⟩ | ⟨_, h, rfl, _, _⟩ | ⟨_, _, h⟩
    · cases he
    · exact ⟨h, candidate_bd hT h0⟩
    · exact Srch.told hT h0 h he

theorem Srch.left {k T : Nat} : ∀ {t : Nat} {L : List Int} {p : Nat} {e : Int} {R : List Int}, Srch k T t L p e R → R.length ≤ L.length
  | 0, L, p, e, R, h => by rw [h.2.2]; exact Nat.le_refl _
  | t + 1, L, p, e, R, h => by
    rcases h with ⟨_, _, _, rfl⟩ | ⟨_, _, _, _, rfl⟩ | ⟨_, _, h⟩
    · exact Nat.le_refl _
    · simp
    · have := Srch.left h; simp at this; omega

/-- How many bits a number has. -/
def blN (n : Nat) : Nat := Lib.bitLen n

/-- P and Q are a key. -/
def KeyOk (P Q : Nat) : Prop := (128 ≤ P ∧ 128 ≤ Q) ∧ (P < 1099511627776 ∧ Q < 1099511627776) ∧ Pr P ∧ Pr Q ∧ P ≠ Q ∧ blN P = blN Q ∧ Nat.gcd (P * Q) ((P - 1) * (Q - 1)) = 1
end Go.Proofs.Ytambpcgdaogojaa

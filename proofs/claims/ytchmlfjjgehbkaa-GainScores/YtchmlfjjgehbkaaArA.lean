/-
  A power to one less than a prime leaves 1; a power to the inverse exponent undoes a power.
  Primes: the least divisor, witnesses, searches, keys, by definition.
  Paillier's way: units by n times n, what each hides, and how sums go through.
-/
import Derived.Test.YtchmlfjjgehbkaaEucA
import Derived.Test.YtchmlfjjgehbkaaBytA
namespace Go.Proofs.Ytchmlfjjgehbkaa


theorem covers : ∀ (l1 l2 : List Nat), l1.Nodup → (∀ x, x ∈ l1 → x ∈ l2) → l2.length ≤ l1.length → ∀ x, x ∈ l2 → x ∈ l1
  | [], l2, _, _, hl, x, hx => by
    have : l2 = [] := List.eq_nil_of_length_eq_zero (by simpa using hl)
    subst this; exact hx
  | a :: l1, l2, hn, hs, hl, x, hx => by
    rw [List.nodup_cons] at hn
    have ha : a ∈ l2 := hs a (List.mem_cons_self ..)
    by_cases hxa : x = a
    · subst hxa; exact List.mem_cons_self ..
    · refine List.mem_cons_of_mem _ (covers l1 (l2.erase a) hn.2 (fun y hy => ?_) ?_ x ((List.mem_erase_of_ne hxa).2 hx))
      · have : y ≠ a := by intro e; subst e; exact hn.1 hy
        exact (List.mem_erase_of_ne this).2 (hs y (List.mem_cons_of_mem _ hy))
      · rw [List.length_erase_of_mem ha]
        simp only [List.length_cons] at hl
        omega

/-- No divisor but 1 and itself. -/
def Pr (p : Nat) : Prop := 2 ≤ p ∧ ∀ d, 2 ≤ d → d < p → ¬ d ∣ p

theorem pr_of {p : Nat} (h2 : 2 ≤ p) (h : ∀ d, 2 ≤ d → d * d ≤ p → p % d ≠ 0) : Pr p := by
  refine ⟨h2, fun d hd hlt hdv => ?_⟩
  obtain ⟨e, he⟩ := hdv
  have he2 : 2 ≤ e := by
    rcases Nat.lt_or_ge e 2 with h' | h'
    · have : e = 0 ∨ e = 1 := by omega
      rcases this with rfl | rfl <;> simp at he <;> omega
    · exact h'
  rcases Nat.le_total d e with hde | hde
  · exact h d hd (by rw [he]; exact Nat.mul_le_mul_left _ hde) (by rw [he]; exact Nat.mul_mod_right _ _)
  · exact h e he2 (by rw [he]; exact Nat.mul_le_mul_right _ hde) (by rw [he, Nat.mul_comm]; exact Nat.mul_mod_right _ _)

theorem Pr.coprime {p a : Nat} (h : Pr p) (h0 : a % p ≠ 0) : Nat.Coprime p a := by
  unfold Nat.Coprime
  have hg1 := Nat.gcd_dvd_left p a
  have hg2 := Nat.gcd_dvd_right p a
  have hpos : 0 < Nat.gcd p a := Nat.gcd_pos_of_pos_left _ (by have := h.1; omega)
  have hle := Nat.le_of_dvd (by have := h.1; omega) hg1
  rcases Nat.lt_or_ge (Nat.gcd p a) 2 with h' | h'
  · omega
  · rcases Nat.lt_or_ge (Nat.gcd p a) p with h'' | h''
    · exact absurd hg1 (h.2 _ h' h'')
    · have e : Nat.gcd p a = p := by omega
      rw [e] at hg2
      exact absurd (Nat.mod_eq_zero_of_dvd hg2) h0

theorem prod_map (a p : Nat) : ∀ l : List Nat, (l.map (fun i => a * i % p)).prod % p = (a ^ l.length * l.prod) % p
  | [] => by simp
  | i :: l => by
    have ih := prod_map a p l
    simp only [List.map_cons, List.prod_cons, List.length_cons]
    rw [Nat.mul_mod, Nat.mod_mod, ih, ← Nat.mul_mod]
    congr 1
    rw [Nat.pow_succ]
    simp only [Nat.mul_assoc, Nat.mul_comm, Nat.mul_left_comm]

theorem prod_coprime {p : Nat} : ∀ l : List Nat, (∀ x, x ∈ l → Nat.Coprime p x) → Nat.Coprime p l.prod
  | [], _ => by simp
  | i :: l, h => by
    rw [List.prod_cons]
    exact Nat.Coprime.mul_right (h i (List.mem_cons_self ..)) (prod_coprime l fun x hx => h x (List.mem_cons_of_mem _ hx))

theorem fermat {p a : Nat} (h : Pr p) (ha : a % p ≠ 0) : a ^ (p - 1) % p = 1 := by
  have h2 := h.1
  have hc := h.coprime ha
  have hL : (List.range' 1 (p - 1)).Nodup := List.nodup_range' 1
  have hmem : ∀ x, x ∈ List.range' 1 (p - 1) ↔ 1 ≤ x ∧ x < p := fun x => by rw [List.mem_range'_1]; omega
  have hinto : ∀ x, x ∈ List.range' 1 (p - 1) → a * x % p ∈ List.range' 1 (p - 1) := fun x hx => by
    rw [hmem] at hx ⊢
    refine ⟨?_, Nat.mod_lt _ (by omega)⟩
    rcases Nat.eq_zero_or_pos (a * x % p) with h0 | h0
    · have hd := Nat.Coprime.dvd_of_dvd_mul_left hc (Nat.dvd_of_mod_eq_zero h0)
      have := Nat.le_of_dvd (by omega) hd
      omega
    · exact h0
  have hinj : ∀ x y, x ∈ List.range' 1 (p - 1) → y ∈ List.range' 1 (p - 1) → x ≤ y → a * x % p = a * y % p → x = y := fun x y hx hy hle he => by
    rw [hmem] at hx hy
    have hd : p ∣ a * (y - x) := by
      rw [Nat.mul_sub]
      exact Nat.dvd_of_mod_eq_zero (Nat.sub_mod_eq_zero_of_mod_eq he.symm)
    have hd2 := Nat.Coprime.dvd_of_dvd_mul_left hc hd
    rcases Nat.eq_zero_or_pos (y - x) with h0 | h0
    · omega
    · have := Nat.le_of_dvd h0 hd2; omega
  have hMn : ((List.range' 1 (p - 1)).map (fun i => a * i % p)).Nodup := by
    unfold List.Nodup
    rw [List.pairwise_map]
    refine List.Pairwise.imp_of_mem ?_ hL
    intro x y hx hy hne he
    rcases Nat.le_total x y with hxy | hxy
    · exact hne (hinj x y hx hy hxy he)
    · exact hne (hinj y x hy hx hxy he.symm).symm
  have hsub : ∀ x, x ∈ (List.range' 1 (p - 1)).map (fun i => a * i % p) → x ∈ List.range' 1 (p - 1) := fun x hx => by
    obtain ⟨i, hi, rfl⟩ := List.mem_map.1 hx
    exact hinto i hi
  have hperm := (List.perm_ext_iff_of_nodup hMn hL).2 fun x => ⟨hsub x, covers _ _ hMn hsub (by simp) x⟩
  have hprod := List.Perm.prod_nat hperm
  have hm := prod_map a p (List.range' 1 (p - 1))
  rw [hprod] at hm
  have hcp : Nat.Coprime p (List.range' 1 (p - 1)).prod := prod_coprime _ fun x hx => by
    rw [hmem] at hx
    exact h.coprime (by rw [Nat.mod_eq_of_lt hx.2]; omega)
  simp only [List.length_range'] at hm
  generalize (List.range' 1 (p - 1)).prod = F at *
  have hpos : 1 ≤ a ^ (p - 1) := Nat.pos_of_ne_zero (by
    intro e
    have : a = 0 := by
      rcases Nat.eq_zero_or_pos a with h0 | h0
      · exact h0
      · have := Nat.pow_pos (n := p - 1) h0; omega
    subst this; simp at ha)
  have hd : p ∣ F * (a ^ (p - 1) - 1) := by
    rw [Nat.mul_sub, Nat.mul_one, Nat.mul_comm]
    exact Nat.dvd_of_mod_eq_zero (Nat.sub_mod_eq_zero_of_mod_eq hm.symm)
  have hd2 := Nat.Coprime.dvd_of_dvd_mul_left hcp hd
  obtain ⟨k, hk⟩ := hd2
  have e : a ^ (p - 1) = 1 + p * k := by omega
  rw [e, Nat.add_mul_mod_self_left]
  exact Nat.mod_eq_of_lt (by omega)

/-- A power to the inverse exponent undoes the power. -/
theorem undo {p x e i : Nat} (h : Pr p) (hp : 3 ≤ p) (hx : x < p) (hei : e * i % (p - 1) = 1 % (p - 1)) (h0 : 0 < e * i) : (x ^ e % p) ^ i % p = x := by
  rw [← Nat.pow_mod, ← Nat.pow_mul]
  rcases Nat.eq_zero_or_pos x with rfl | hpos
  · rw [Nat.zero_pow h0, Nat.zero_mod]
  · have h1 : e * i % (p - 1) = 1 := by rw [hei]; exact Nat.mod_eq_of_lt (by omega)
    have hd := Nat.div_add_mod (e * i) (p - 1)
    rw [h1] at hd
    rw [← hd, Nat.pow_succ, Nat.pow_mul, Nat.mul_mod, Nat.pow_mod, fermat h (by rw [Nat.mod_eq_of_lt hx]; omega), Nat.one_pow, Nat.mod_eq_of_lt (show 1 < p by omega), Nat.one_mul, Nat.mod_mod, Nat.mod_eq_of_lt hx]
end Go.Proofs.Ytchmlfjjgehbkaa

namespace Go.Proofs.Ytchmlfjjgehbkaa
open Go.RowKit

/-- d is what the search for the least divisor of n tells. -/
def LeastOf (n d : Nat) : Prop := (2 ≤ d ∧ d * d ≤ n ∧ d ∣ n ∧ ∀ j, 2 ≤ j → j < d → ¬ j ∣ n) ∨ (d = n ∧ ∀ j, 2 ≤ j → j * j ≤ n → ¬ j ∣ n)

theorem LeastOf.unique {n d e : Nat} (h : LeastOf n d) (h' : LeastOf n e) : d = e := by
  rcases h with ⟨h1, h2, h3, h4⟩ | ⟨h1, h2⟩ <;> rcases h' with ⟨k1, k2, k3, k4⟩ | ⟨k1, k2⟩
  · rcases Nat.lt_trichotomy d e with h | h | h
    · exact absurd h3 (k4 d h1 h)
    · exact h
    · exact absurd k3 (h4 e k1 h)
  · exact absurd h3 (k2 d h1 h2)
  · exact absurd k3 (h2 e k1 k2)
  · omega

/-- Of 2 and more it is the least divisor above 1, and a prime. -/
theorem LeastOf.least {n d : Nat} (h : LeastOf n d) (h2 : 2 ≤ n) : 2 ≤ d ∧ d ∣ n ∧ ∀ j, 2 ≤ j → j ∣ n → d ≤ j := by
  rcases h with ⟨h1, _, h3, h4⟩ | ⟨rfl, h4⟩
  · refine ⟨h1, h3, fun j k1 k2 => ?_⟩
    rcases Nat.lt_or_ge j d with h | h
    · exact absurd k2 (h4 j k1 h)
    · exact h
  · refine ⟨h2, Nat.dvd_refl _, fun j k1 k2 => ?_⟩
    rcases Nat.lt_or_ge j d with h | h
    · exfalso
      obtain ⟨m, hm⟩ := k2
      have hm2 : 2 ≤ m := by
        rcases Nat.lt_or_ge m 2 with e | e
        · have : m = 0 ∨ m = 1 := by omega
          rcases this with rfl | rfl <;> omega
        · exact e
      rcases Nat.le_total j m with e | e
      · exact h4 j k1 (by rw [hm]; exact Nat.mul_le_mul (Nat.le_refl _) e) ⟨m, hm⟩
      · exact h4 m hm2 (by rw [hm]; exact Nat.mul_le_mul e (Nat.le_refl _)) ⟨j, by rw [hm, Nat.mul_comm]⟩
    · exact h

theorem LeastOf.prime {n d : Nat} (h : LeastOf n d) (h2 : 2 ≤ n) : Pr d := by
  obtain ⟨a, b, c⟩ := h.least h2
  refine ⟨a, fun j k1 k2 k3 => ?_⟩
  have := c j k1 (Nat.dvd_trans k3 b)
  omega

theorem LeastOf.isPr {n d : Nat} (h : LeastOf n d) (h2 : 2 ≤ n) : d = n ↔ Pr n := by
  constructor
  · rintro rfl; exact h.prime h2
  · intro hp
    obtain ⟨a, b, c⟩ := h.least h2
    have hle := Nat.le_of_dvd (by omega) b
    rcases Nat.lt_or_ge d n with e | e
    · exact absurd b (hp.2 d a e)
    · omega

/-- Is it a prime? -/
def prB (n : Nat) : Bool := decide (2 ≤ n) && (List.range n).all (fun d => decide (d < 2) || decide (n % d ≠ 0))

theorem prB_iff (n : Nat) : prB n = true ↔ Pr n := by
  unfold prB Pr
  rw [Bool.and_eq_true, decide_eq_true_iff, List.all_eq_true]
  refine and_congr_right fun _ => ⟨fun h d h1 h2 h3 => ?_, fun h d hd => ?_⟩
  · have := h d (List.mem_range.2 h2)
    rw [Bool.or_eq_true, decide_eq_true_iff, decide_eq_true_iff] at this
    rcases this with e | e
    · omega
    · exact e (Nat.mod_eq_zero_of_dvd h3)
  · rw [Bool.or_eq_true, decide_eq_true_iff, decide_eq_true_iff]
    by_cases e : d < 2
    · exact .inl e
    · exact .inr fun k => h d (by omega) (List.mem_range.1 hd) (Nat.dvd_of_mod_eq_zero k)

theorem prB_of {n : Nat} (h : Pr n) : prB n = true := (prB_iff n).2 h
theorem prB_not {n : Nat} (h : ¬ Pr n) : prB n = false := by
  cases e : prB n with
  | false => rfl
  | true => exact absurd ((prB_iff n).1 e) h

theorem pr_two {n : Nat} (h : Pr n) : 2 ≤ n := h.1

/-- a proves that n is no prime. -/
def Wit (a n : Nat) : Prop := ∃ d s, n - 1 = d * 2 ^ s ∧ d % 2 = 1 ∧ 1 < a ^ d % n ∧ ∀ i, i < s → a ^ (d * 2 ^ i) % n ≠ n - 1

theorem odd_part {d s e t : Nat} (h : d * 2 ^ s = e * 2 ^ t) (hd : d % 2 = 1) (he : e % 2 = 1) : d = e ∧ s = t := by
  induction s generalizing t with
  | zero =>
    cases t with
    | zero => simp at h; exact ⟨h, rfl⟩
    | succ t =>
      exfalso
      rw [Nat.pow_zero, Nat.mul_one, Nat.pow_succ, ← Nat.mul_assoc] at h
      omega
  | succ s ih =>
    cases t with
    | zero =>
      exfalso
      rw [Nat.pow_zero, Nat.mul_one, Nat.pow_succ, ← Nat.mul_assoc] at h
      omega
    | succ t =>
      rw [Nat.pow_succ, Nat.pow_succ, ← Nat.mul_assoc, ← Nat.mul_assoc] at h
      obtain ⟨a, b⟩ := ih (t := t) (by omega)
      exact ⟨a, by omega⟩

theorem wit_iff {a n d s : Nat} (h : n - 1 = d * 2 ^ s) (hd : d % 2 = 1) : Wit a n ↔ (1 < a ^ d % n ∧ ∀ i, i < s → a ^ (d * 2 ^ i) % n ≠ n - 1) := by
  constructor
  · rintro ⟨e, t, h1, h2, h3, h4⟩
    obtain ⟨rfl, rfl⟩ := odd_part (h.symm.trans h1) hd h2
    exact ⟨h3, h4⟩
  · rintro ⟨h3, h4⟩
    exact ⟨d, s, h, hd, h3, h4⟩

theorem root_one {p x : Nat} (h : Pr p) (hx : x < p) (h2 : x * x % p = 1) : x = 1 ∨ x = p - 1 := by
  have hp := h.1
  rcases Nat.eq_zero_or_pos x with rfl | h0
  · simp at h2
  by_cases h1 : x = 1
  · exact .inl h1
  right
  -- p divides (x - 1) (x + 1)
  have hdv : p ∣ (x - 1) * (x + 1) := by
    have e : (x - 1) * (x + 1) = x * x - 1 := by
      obtain ⟨y, rfl⟩ : ∃ y, x = y + 1 := ⟨x - 1, by omega⟩
      simp only [Nat.add_sub_cancel, Nat.mul_add, Nat.add_mul]
      omega
    rw [e]
    refine ⟨x * x / p, ?_⟩
    have := Nat.div_add_mod (x * x) p
    rw [h2] at this
    omega
  have hco : Nat.Coprime p (x - 1) := h.coprime (by rw [Nat.mod_eq_of_lt (by omega)]; omega)
  have hd := hco.dvd_of_dvd_mul_left hdv
  have hle := Nat.le_of_dvd (by omega) hd
  omega

theorem pow_mod_sq (a n k : Nat) : a ^ (k * 2) % n = (a ^ k % n) * (a ^ k % n) % n := by
  rw [Nat.pow_mul, Nat.pow_two, Nat.mul_mod]

/-- No prime has a witness. -/
theorem honest {a p : Nat} (h : Pr p) (h3 : 3 ≤ p) : ¬ Wit a p := by
  rintro ⟨d, s, h1, h2, h4, h5⟩
  have hd0 : 0 < d := by omega
  have ha : a % p ≠ 0 := by
    intro e
    have : a ^ d % p = 0 := by
      rw [Nat.pow_mod, e, Nat.zero_pow hd0]; simp
    omega
  have hf := fermat h ha
  rw [h1] at hf
  have key : ∀ t, t ≤ s → a ^ (d * 2 ^ (s - t)) % p = 1 := by
    intro t
    induction t with
    | zero => intro _; simpa using hf
    | succ t ih =>
      intro ht
      have e := ih (by omega)
      rw [show s - t = (s - (t + 1)) + 1 by omega, Nat.pow_succ, ← Nat.mul_assoc, pow_mod_sq] at e
      rcases root_one h (Nat.mod_lt _ (by omega)) e with r | r
      · exact r
      · exact absurd r (h5 _ (by omega))
  have e := key s (Nat.le_refl _)
  simp at e
  omega

/-- The number that a try's bytes tell: so many bits, the highest and the lowest set. -/
def candidate (T : Nat) (x : Nat) : Nat := if (x % T + T) % 2 = 0 then x % T + T + 1 else x % T + T

/-- Tries of k bytes each, as many as are left: what is told (the number and the error), and what is left. -/
def Srch (k T : Nat) : Nat → List Int → Nat → Int → List Int → Prop
  | 0, L, p, e, R => p = 0 ∧ e = 8 ∧ R = L
  | t + 1, L, p, e, R => (L.length < k ∧ p = 0 ∧ e = 7 ∧ R = L) ∨ (k ≤ L.length ∧ Pr (candidate T (val 256 (L.take k).reverse).toNat) ∧ p = candidate T (val 256 (L.take k).reverse).toNat ∧ e = 0 ∧ R = L.drop k) ∨
      (k ≤ L.length ∧ ¬ Pr (candidate T (val 256 (L.take k).reverse).toNat) ∧ Srch k T t (L.drop k) p e R)

theorem Srch.unique {k T : Nat} : ∀ {t : Nat} {L : List Int} {p : Nat} {e : Int} {R : List Int} {q : Nat} {f : Int} {S : List Int}, Srch k T t L p e R → Srch k T t L q f S → p = q ∧ e = f ∧ R = S
  | 0, L, p, e, R, q, f, S, h, h' => by
    obtain ⟨rfl, rfl, rfl⟩ := h
    obtain ⟨rfl, rfl, rfl⟩ := h'
    exact ⟨rfl, rfl, rfl⟩
  | t + 1, L, p, e, R, q, f, S, h, h' => by
    rcases h with ⟨h1, rfl, rfl, rfl⟩ | ⟨h1, h2, rfl, rfl, rfl⟩ | ⟨h1, h2, h3⟩ <;> rcases h' with ⟨k1, rfl, rfl, rfl⟩ | ⟨k1, k2, rfl, rfl, rfl⟩ | ⟨k1, k2, k3⟩
    · exact ⟨rfl, rfl, rfl⟩
    · omega
    · omega
    · omega
    · exact ⟨rfl, rfl, rfl⟩
    · exact absurd h2 k2
    · omega
    · exact absurd k2 h2
    · exact Srch.unique h3 k3

theorem candidate_bd {T x : Nat} (hT : T % 2 = 0) (h0 : 0 < T) : T ≤ candidate T x ∧ candidate T x < 2 * T := by
  unfold candidate
  have := Nat.mod_lt x h0
  split <;> omega

/-- What is drawn is a prime of as many bits as asked for. -/
theorem Srch.told {k T : Nat} (hT : T % 2 = 0) (h0 : 0 < T) : ∀ {t : Nat} {L : List Int} {p : Nat} {e : Int} {R : List Int}, Srch k T t L p e R → e = 0 → Pr p ∧ T ≤ p ∧ p < 2 * T
  | 0, L, p, e, R, h, he => by obtain ⟨_, rfl, _⟩ := h; cases he
  | t + 1, L, p, e, R, h, he => by
    rcases h with ⟨_, _, rfl, _⟩ | ⟨_, h, rfl, _, _⟩ | ⟨_, _, h⟩
    · cases he
    · exact ⟨h, candidate_bd hT h0⟩
    · exact Srch.told hT h0 h he

theorem Srch.left {k T : Nat} : ∀ {t : Nat} {L : List Int} {p : Nat} {e : Int} {R : List Int}, Srch k T t L p e R → R.length ≤ L.length
  | 0, L, p, e, R, h => by rw [h.2.2]; exact Nat.le_refl _
  | t + 1, L, p, e, R, h => by
    rcases h with ⟨_, _, _, rfl⟩ | ⟨_, _, _, _, rfl⟩ | ⟨_, _, h⟩
    · exact Nat.le_refl _
    · simp
    · have := Srch.left h; simp at this; omega

/-- How many bits a number has. -/
def blN (n : Nat) : Nat := Lib.bitLen n

/-- P and Q are a key. -/
def KeyOk (P Q : Nat) : Prop := (128 ≤ P ∧ 128 ≤ Q) ∧ (P < 1099511627776 ∧ Q < 1099511627776) ∧ Pr P ∧ Pr Q ∧ P ≠ Q ∧ blN P = blN Q ∧ Nat.gcd (P * Q) ((P - 1) * (Q - 1)) = 1
end Go.Proofs.Ytchmlfjjgehbkaa

namespace Go.Proofs.Ytchmlfjjgehbkaa
open Go.RowKit

theorem one_mod_sq {n x : Nat} (h : 2 ≤ n) : (1 + n * x) % (n * n) = 1 + n * (x % n) := by
  have h1 : 1 + n * x = 1 + n * (x % n) + n * n * (x / n) := by
    have := Nat.div_add_mod x n
    have e : n * x = n * (n * (x / n) + x % n) := by rw [this]
    rw [e, Nat.mul_add, ← Nat.mul_assoc]
    omega
  have h2 : 1 + n * (x % n) < n * n := by
    have hx : x % n ≤ n - 1 := by have := Nat.mod_lt x (show 0 < n by omega); omega
    have h3 := Nat.mul_le_mul (Nat.le_refl n) hx
    have h4 : n * (n - 1) + n = n * n := by
      obtain ⟨m, rfl⟩ : ∃ m, n = m + 1 := ⟨n - 1, by omega⟩
      simp [Nat.mul_add]
    omega
  rw [h1, Nat.add_mul_mod_self_left, Nat.mod_eq_of_lt h2]

/-- What is 1 and a multiple of n, times another one. -/
theorem sq_mul {n x y : Nat} : (1 + n * x) * (1 + n * y) % (n * n) = (1 + n * (x + y)) % (n * n) := by
  have : (1 + n * x) * (1 + n * y) = 1 + n * (x + y) + n * n * (x * y) := by
    simp only [Nat.add_mul, Nat.mul_add, Nat.one_mul, Nat.mul_one]
    have e : n * x * (n * y) = n * n * (x * y) := by
      rw [Nat.mul_assoc, Nat.mul_left_comm x n y, ← Nat.mul_assoc n n]
    rw [e]
    omega
  rw [this, Nat.add_mul_mod_self_left]

theorem sq_pow {n x : Nat} (k : Nat) : (1 + n * x) ^ k % (n * n) = (1 + n * (k * x)) % (n * n) := by
  induction k with
  | zero => simp
  | succ k ih =>
    rw [Nat.pow_succ, Nat.mul_mod, ih, ← Nat.mul_mod, sq_mul, Nat.succ_mul]

/-- A number that has no divisor in common with a key's n: to the power of f it leaves 1 by n. -/
theorem euler {P Q c : Nat} (hP : Pr P) (hQ : Pr Q) (hne : P ≠ Q) (hc : Nat.gcd c (P * Q) = 1) : c ^ ((P - 1) * (Q - 1)) % (P * Q) = 1 := by
  have p2 := hP.1
  have q2 := hQ.1
  have hcP : c % P ≠ 0 := fun h => by
    have hd : P ∣ Nat.gcd c (P * Q) := Nat.dvd_gcd (Nat.dvd_of_mod_eq_zero h) (Nat.dvd_mul_right P Q)
    rw [hc] at hd
    have := Nat.le_of_dvd (by omega) hd
    omega
  have hcQ : c % Q ≠ 0 := fun h => by
    have hd : Q ∣ Nat.gcd c (P * Q) := Nat.dvd_gcd (Nat.dvd_of_mod_eq_zero h) (Nat.dvd_mul_left Q P)
    rw [hc] at hd
    have := Nat.le_of_dvd (by omega) hd
    omega
  have e1 : c ^ ((P - 1) * (Q - 1)) % P = 1 := by
    rw [Nat.pow_mul, Nat.pow_mod, fermat hP hcP, Nat.one_pow]
    exact Nat.mod_eq_of_lt (by omega)
  have e2 : c ^ ((P - 1) * (Q - 1)) % Q = 1 := by
    rw [Nat.mul_comm, Nat.pow_mul, Nat.pow_mod, fermat hQ hcQ, Nat.one_pow]
    exact Nat.mod_eq_of_lt (by omega)
  obtain ⟨y, hy⟩ : ∃ y, y = c ^ ((P - 1) * (Q - 1)) := ⟨_, rfl⟩
  rw [← hy] at e1 e2 ⊢
  have hy1 : 1 ≤ y := by
    rcases Nat.eq_zero_or_pos y with h | h
    · rw [h] at e1; simp at e1
    · exact h
  have d1 : P ∣ y - 1 := ⟨y / P, by have := Nat.div_add_mod y P; omega⟩
  have d2 : Q ∣ y - 1 := ⟨y / Q, by have := Nat.div_add_mod y Q; omega⟩
  have hco : Nat.Coprime P Q := hP.coprime (fun h => by
    have hd := Nat.dvd_of_mod_eq_zero h
    have hle := Nat.le_of_dvd (by omega) hd
    rcases Nat.lt_or_ge P Q with e | e
    · exact hQ.2 P p2 e hd
    · exact hne (by omega))
  have hd : P * Q ∣ y - 1 := hco.mul_dvd_of_dvd_of_dvd d1 d2
  obtain ⟨k, hk⟩ := hd
  have hn : 2 ≤ P * Q := by
    have := Nat.mul_le_mul p2 q2
    omega
  rw [show y = 1 + P * Q * k by omega, Nat.add_mul_mod_self_left, Nat.mod_eq_of_lt (by omega)]

/-- What a unit hides, times f: it is 1 and so many times n, to the power of f. -/
def lam (n f c : Nat) : Nat := (c ^ f % (n * n) - 1) / n

theorem lam_of {n f c x : Nat} (hn : 2 ≤ n) (h : c ^ f % (n * n) = (1 + n * x) % (n * n)) : lam n f c = x % n := by
  unfold lam
  rw [h, one_mod_sq hn, show 1 + n * (x % n) - 1 = n * (x % n) by omega, Nat.mul_div_cancel_left _ (by omega)]
theorem lam_eq {n f c : Nat} (hn : 2 ≤ n) (h : c ^ f % n = 1) : c ^ f % (n * n) = 1 + n * lam n f c ∧ lam n f c < n := by
  obtain ⟨y, hy⟩ : ∃ y, y = c ^ f % (n * n) := ⟨_, rfl⟩
  have h1 : y % n = 1 := by rw [hy, Nat.mod_mul_right_mod]; exact h
  have h2 : y < n * n := by rw [hy]; exact Nat.mod_lt _ (Nat.mul_pos (by omega) (by omega))
  have h3 := Nat.div_add_mod y n
  have h4 : lam n f c = y / n := by
    unfold lam
    rw [← hy, show y - 1 = n * (y / n) by omega, Nat.mul_div_cancel_left _ (by omega)]
  rw [← hy, h4]
  exact ⟨by omega, Nat.div_lt_of_lt_mul h2⟩
/-- The two as one fact: c to the power of f is 1 and lam times n. -/
theorem lam_sq {n f c : Nat} (hn : 2 ≤ n) (h : c ^ f % n = 1) : c ^ f % (n * n) = (1 + n * lam n f c) % (n * n) := by
  obtain ⟨h1, h2⟩ := lam_eq hn h
  rw [one_mod_sq hn, Nat.mod_eq_of_lt h2]; exact h1

theorem lam_mod {n f c : Nat} : lam n f (c % (n * n)) = lam n f c := by unfold lam; rw [← Nat.pow_mod]
theorem lam_mul {n f c d : Nat} (hn : 2 ≤ n) (hc : c ^ f % n = 1) (hd : d ^ f % n = 1) : lam n f (c * d) = (lam n f c + lam n f d) % n := by
  apply lam_of hn
  rw [Nat.mul_pow, Nat.mul_mod, lam_sq hn hc, lam_sq hn hd, ← Nat.mul_mod, sq_mul]
theorem lam_pow {n f c k : Nat} (hn : 2 ≤ n) (hc : c ^ f % n = 1) : lam n f (c ^ k) = k * lam n f c % n := by
  apply lam_of hn
  rw [← Nat.pow_mul, Nat.mul_comm k f, Nat.pow_mul, Nat.pow_mod, lam_sq hn hc, ← Nat.pow_mod, sq_pow]
theorem lam_hide {n f r : Nat} (hn : 2 ≤ n) (hr : r ^ f % n = 1) : lam n f (r ^ n) = 0 := by
  rw [lam_pow hn hr, Nat.mul_mod_right]
theorem lam_shown {n f m : Nat} (hn : 2 ≤ n) : lam n f (1 + n * m) = f * m % n := lam_of hn (sq_pow f)

/-- x is what c hides. -/
def Dec (n f c x : Nat) : Prop := x < n ∧ x * f % n = lam n f c % n

theorem Dec.unique {n f c x y : Nat} (hg : Nat.gcd n f = 1) (h : Dec n f c x) (h' : Dec n f c y) : x = y := by
  have key : ∀ {x y : Nat}, x ≤ y → y < n → x * f % n = y * f % n → x = y := fun {x y} hle hy he => by
    have hd : n ∣ (y - x) * f := by
      rw [Nat.sub_mul]
      exact Nat.dvd_of_mod_eq_zero (Nat.sub_mod_eq_zero_of_mod_eq he.symm)
    have hd' : n ∣ y - x := Nat.Coprime.dvd_of_dvd_mul_right hg hd
    rcases Nat.eq_zero_or_pos (y - x) with h0 | h0
    · omega
    · have := Nat.le_of_dvd h0 hd'
      omega
  rcases Nat.le_total x y with hle | hle
  · exact key hle h'.1 (h.2.trans h'.2.symm)
  · exact (key hle h.1 (h'.2.trans h.2.symm)).symm

theorem Dec.of {n f c x : Nat} (hn : 0 < n) (h : x * f % n = lam n f c % n) : Dec n f c (x % n) :=
  ⟨Nat.mod_lt _ hn, by rw [Nat.mul_mod, Nat.mod_mod, ← Nat.mul_mod]; exact h⟩
theorem Dec.mod {n f c x : Nat} : Dec n f (c % (n * n)) x ↔ Dec n f c x := by unfold Dec; rw [lam_mod]

theorem Dec.mul {n f c d x y : Nat} (hn : 2 ≤ n) (hc : c ^ f % n = 1) (hd : d ^ f % n = 1) (h : Dec n f c x) (h' : Dec n f d y) : Dec n f (c * d) ((x + y) % n) := by
  apply Dec.of (by omega)
  rw [lam_mul hn hc hd, Nat.mod_mod, Nat.add_mul, Nat.add_mod, h.2, h'.2, ← Nat.add_mod]
theorem Dec.pow {n f c x k : Nat} (hn : 2 ≤ n) (hc : c ^ f % n = 1) (h : Dec n f c x) : Dec n f (c ^ k) (x * k % n) := by
  apply Dec.of (by omega)
  rw [lam_pow hn hc, Nat.mod_mod, Nat.mul_right_comm, Nat.mul_comm (x * f) k, Nat.mul_mod, h.2, ← Nat.mul_mod]
theorem Dec.hide {n f r : Nat} (hn : 2 ≤ n) (hr : r ^ f % n = 1) : Dec n f (r ^ n) 0 := by
  refine ⟨by omega, ?_⟩
  rw [lam_hide hn hr, Nat.zero_mul]
theorem Dec.shown {n f m : Nat} (hn : 2 ≤ n) (hm : m < n) : Dec n f (1 + n * m) m := by
  refine ⟨hm, ?_⟩
  rw [lam_shown hn, Nat.mod_mod, Nat.mul_comm]

/-- 1 and a multiple of n has no divisor in common with n. -/
theorem unit_shown (n m : Nat) : Nat.gcd (1 + n * m) n = 1 := by
  rw [Nat.gcd_comm, Nat.gcd_add_mul_left_right]
  simp
theorem unit_mod {c n : Nat} (h : Nat.gcd c n = 1) : Nat.gcd (c % (n * n)) n = 1 := by
  have e : c % (n * n) + n * (n * (c / (n * n))) = c := by rw [← Nat.mul_assoc]; exact Nat.mod_add_div _ _
  rw [Nat.gcd_comm, ← Nat.gcd_add_mul_left_right n _ (n * (c / (n * n))), e, Nat.gcd_comm]
  exact h
theorem unit_mul {c d n : Nat} (hc : Nat.gcd c n = 1) (hd : Nat.gcd d n = 1) : Nat.gcd (c * d) n = 1 := Nat.Coprime.mul_left hc hd
theorem unit_pow {c n : Nat} (k : Nat) (hc : Nat.gcd c n = 1) : Nat.gcd (c ^ k) n = 1 := Nat.Coprime.pow_left k hc

/-- What is told of a key: its n and its f. -/
theorem KeyOk.facts {P Q : Nat} (h : KeyOk P Q) : Pr P ∧ Pr Q ∧ P ≠ Q ∧ Nat.gcd (P * Q) ((P - 1) * (Q - 1)) = 1 ∧ 16384 ≤ P * Q ∧ P * Q < 1208925819614629174706176 ∧ P * Q % 2 = 1 := by
  obtain ⟨⟨a, a'⟩, ⟨b, b'⟩, c, c', h3, _, h5⟩ := h
  have odd : ∀ p, Pr p → 128 ≤ p → p % 2 = 1 := fun p hp h => by
    rcases Nat.mod_two_eq_zero_or_one p with e | e
    · exact absurd (Nat.dvd_of_mod_eq_zero e) (hp.2 2 (by omega) (by omega))
    · exact e
  have h1 := Nat.mul_le_mul a a'
  have h2 : P * Q < 1099511627776 * 1099511627776 := Nat.mul_lt_mul'' b b'
  refine ⟨c, c', h3, h5, by omega, by omega, ?_⟩
  rw [Nat.mul_mod, odd P c a, odd Q c' a']
theorem KeyOk.euler {P Q c : Nat} (h : KeyOk P Q) (hc : Nat.gcd c (P * Q) = 1) : c ^ ((P - 1) * (Q - 1)) % (P * Q) = 1 := by
  obtain ⟨h1, h2, h3, _⟩ := h.facts
  exact Go.Proofs.Ytchmlfjjgehbkaa.euler h1 h2 h3 hc
end Go.Proofs.Ytchmlfjjgehbkaa

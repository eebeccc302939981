/-
  Codes of numbers as bytes: what they are, and that each is of one number alone.
-/
import Derived.Test.YtpoipobmkfphcaaBytA
namespace Go.Proofs.Ytpoipobmkfphcaa
open Go.RowKit

/-- The bytes c are the code of m: digits of base 128, the lowest first, to all but the last one 128 is added. -/
def IsCode : List Int → Nat → Prop
  | [], _ => False
  | [b], m => b = (m : Int) ∧ m < 128
  | b :: d :: c, m => b = ((m % 128 : Nat) : Int) + 128 ∧ 0 < m / 128 ∧ IsCode (d :: c) (m / 128)
theorem IsCode.cons {b : Int} {c : List Int} {m : Nat} (hc : c ≠ []) (hb : b = ((m % 128 : Nat) : Int) + 128) (h0 : 0 < m / 128) (h : IsCode c (m / 128)) : IsCode (b :: c) m := by
  cases c with
  | nil => exact absurd rfl hc
  | cons d c => exact ⟨hb, h0, h⟩
theorem IsCode.nonempty {c : List Int} {m : Nat} (h : IsCode c m) : c ≠ [] := by
  rintro rfl
  exact h
theorem IsCode.num : ∀ {c : List Int} {m m' : Nat}, IsCode c m → IsCode c m' → m = m'
  | [], _, _, h, _ => h.elim
  | [b], m, m', h, h' => by obtain ⟨h1, _⟩ := h; obtain ⟨h2, _⟩ := h'; omega
  | b :: d :: c, m, m', h, h' => by
    obtain ⟨h1, _, h2⟩ := h
    obtain ⟨h1', _, h2'⟩ := h'
    have := IsCode.num h2 h2'
    omega
theorem IsCode.bytes : ∀ {c c' : List Int} {m : Nat}, IsCode c m → IsCode c' m → c = c'
  | [], _, _, h, _ => h.elim
  | [b], [], _, _, h => h.elim
  | [b], [b'], m, h, h' => by obtain ⟨h1, _⟩ := h; obtain ⟨h2, _⟩ := h'; rw [h1, h2]
  | [b], b' :: d' :: c', m, h, h' => by obtain ⟨_, h1⟩ := h; obtain ⟨_, h2, _⟩ := h'; omega
  | b :: d :: c, [], _, _, h => h.elim
  | b :: d :: c, [b'], m, h, h' => by obtain ⟨_, h1, _⟩ := h; obtain ⟨_, h2⟩ := h'; omega
  | b :: d :: c, b' :: d' :: c', m, h, h' => by
    obtain ⟨h1, _, h2⟩ := h
    obtain ⟨h1', _, h2'⟩ := h'
    rw [IsCode.bytes h2 h2', h1, h1']
/-- No code is the beginning of another one. -/
theorem IsCode.free : ∀ {c c' L : List Int} {m m' : Nat}, IsCode c m → IsCode c' m' → c <+: L → c' <+: L → c = c'
  | [], _, _, _, _, h, _, _, _ => h.elim
  | _ :: _, [], _, _, _, _, h, _, _ => h.elim
  | [b], [b'], L, m, m', h, h', hp, hp' => by
    obtain ⟨t, rfl⟩ := hp
    obtain ⟨t', e⟩ := hp'
    simp at e
    rw [e.1]
  | [b], b' :: d' :: c', L, m, m', h, h', hp, hp' => by
    obtain ⟨t, rfl⟩ := hp
    obtain ⟨t', e⟩ := hp'
    simp at e
    obtain ⟨h1, h2⟩ := h
    obtain ⟨h3, _, _⟩ := h'
    omega
  | b :: d :: c, [b'], L, m, m', h, h', hp, hp' => by
    obtain ⟨t, rfl⟩ := hp
    obtain ⟨t', e⟩ := hp'
    simp at e
    obtain ⟨h1, _, _⟩ := h
    obtain ⟨h2, h3⟩ := h'
    omega
  | b :: d :: c, b' :: d' :: c', L, m, m', h, h', hp, hp' => by
    obtain ⟨t, rfl⟩ := hp
    obtain ⟨t', e⟩ := hp'
    have e : b' = b ∧ d' :: c' ++ t' = d :: c ++ t := by simpa using e
    obtain ⟨_, _, h2⟩ := h
    obtain ⟨_, _, h2'⟩ := h'
    have := IsCode.free h2 h2' (L := (d :: c) ++ t) (List.prefix_append _ _) ⟨t', e.2⟩
    rw [this, e.1]
theorem IsCode.digs : ∀ {c : List Int} {m : Nat}, IsCode c m → Digs 256 c
  | [], _, h => h.elim
  | [b], m, h => by
    obtain ⟨h1, h2⟩ := h
    intro x hx
    simp at hx
    omega
  | b :: d :: c, m, h => by
    obtain ⟨h1, _, h2⟩ := h
    intro x hx
    rcases List.mem_cons.1 hx with e | e
    · omega
    · exact IsCode.digs h2 x e
theorem IsCode.len : ∀ {c : List Int} {m k : Nat}, IsCode c m → m < 128 ^ k → 0 < k → c.length ≤ k
  | [], _, _, h, _, _ => h.elim
  | [b], _, k, _, _, hk => by simp; omega
  | b :: d :: c, m, k, h, hm, hk => by
    obtain ⟨_, h0, h2⟩ := h
    rcases Nat.lt_or_ge 1 k with c1 | c1
    · have : (d :: c).length ≤ k - 1 := IsCode.len h2 (by
        have e : 128 ^ k = 128 ^ (k - 1) * 128 := by rw [← Nat.pow_succ]; congr 1; omega
        rw [e] at hm
        exact Nat.div_lt_of_lt_mul (by rw [Nat.mul_comm]; exact hm)) (by omega)
      simp at this ⊢
      omega
    · obtain rfl : k = 1 := by omega
      rw [Nat.pow_one] at hm
      omega
/-- There is a code of each number. -/
theorem code_ex : ∀ (f : Nat) (m : Nat), m < 128 ^ (f + 1) → ∃ c, IsCode c m
  | 0, m, h => ⟨[(m : Int)], rfl, by simpa using h⟩
  | f + 1, m, h => by
    by_cases hm : m < 128
    · exact ⟨[(m : Int)], rfl, hm⟩
    · obtain ⟨c, hc⟩ := code_ex f (m / 128) (by
        rw [Nat.pow_succ] at h
        exact Nat.div_lt_of_lt_mul (by rw [Nat.mul_comm]; exact h))
      exact ⟨_ :: c, IsCode.cons hc.nonempty rfl (by omega) hc⟩

/-- The bytes of p, to each of which 128 was added, as a number. -/
def loV : List Int → Nat
  | [] => 0
  | x :: p => (x - 128).toNat + 128 * loV p
theorem loV_cons (x : Int) (p : List Int) : loV (x :: p) = (x - 128).toNat + 128 * loV p := rfl
/-- All bytes say that more follow. -/
def Hi (p : List Int) : Prop := ∀ x, x ∈ p → 128 ≤ x ∧ x < 256
theorem Hi.snoc {p : List Int} {x : Int} (h : Hi p) (hx : 128 ≤ x ∧ x < 256) : Hi (p ++ [x]) := by
  intro y hy
  rcases List.mem_append.1 hy with e | e
  · exact h y e
  · simp at e; omega
theorem loV_lt : ∀ {p : List Int}, Hi p → loV p < 128 ^ p.length
  | [], _ => by simp [loV]
  | x :: p, h => by
    have h1 := h x (List.mem_cons_self ..)
    have h2 := loV_lt (p := p) (fun y hy => h y (List.mem_cons_of_mem _ hy))
    rw [List.length_cons, Nat.pow_succ, loV_cons]
    omega
theorem loV_snoc : ∀ {p : List Int} {x : Int}, loV (p ++ [x]) = loV p + (x - 128).toNat * 128 ^ p.length
  | [], x => by simp [loV]
  | y :: p, x => by
    have h := loV_snoc (p := p) (x := x)
    rw [List.cons_append, loV_cons, loV_cons, h, List.length_cons, Nat.pow_succ, Nat.mul_add, ← Nat.mul_assoc (x - 128).toNat, Nat.mul_comm ((x - 128).toNat * 128 ^ p.length) 128]
    omega
/-- What was read is a code. -/
theorem code_of : ∀ {p : List Int} {b : Nat}, Hi p → b < 128 → (p ≠ [] → b ≠ 0) → IsCode (p ++ [(b : Int)]) (loV p + b * 128 ^ p.length)
  | [], b, _, hb, _ => by
    show IsCode [(b : Int)] _
    simp [loV]
    exact ⟨rfl, hb⟩
  | x :: p, b, h, hb, h0 => by
    have h1 := h x (List.mem_cons_self ..)
    have hp : Hi p := fun y hy => h y (List.mem_cons_of_mem _ hy)
    have hb0 : b ≠ 0 := h0 (by simp)
    have ih := code_of (p := p) hp hb (fun _ => hb0)
    have e : loV (x :: p) + b * 128 ^ (x :: p).length = (x - 128).toNat + 128 * (loV p + b * 128 ^ p.length) := by
      rw [List.length_cons, Nat.pow_succ, loV_cons, Nat.mul_add, ← Nat.mul_assoc b, Nat.mul_comm (b * 128 ^ p.length) 128]
      omega
    have hpos : 0 < b * 128 ^ p.length := Nat.mul_pos (by omega) (Nat.pow_pos (by omega))
    rw [List.cons_append, e]
    have hx : (x - 128).toNat < 128 := by omega
    have e1 : ((x - 128).toNat + 128 * (loV p + b * 128 ^ p.length)) / 128 = loV p + b * 128 ^ p.length := by omega
    have e2 : ((x - 128).toNat + 128 * (loV p + b * 128 ^ p.length)) % 128 = (x - 128).toNat := by omega
    refine IsCode.cons (by simp) ?_ ?_ ?_
    · rw [e2]; omega
    · rw [e1]; omega
    · rw [e1]; exact ih

/-- The bytes L begin with no code of a number below 2^64. -/
def NoCode (L : List Int) : Prop := ∀ c m, m < 18446744073709551616 → IsCode c m → ¬ c <+: L
/-- A code goes beyond all bytes that say that more follow, and its last byte says that none does. -/
theorem IsCode.past : ∀ {c : List Int} {m : Nat} {p R : List Int}, IsCode c m → Hi p → c <+: p ++ R → ∃ (q : List Int) (b : Nat), c = p ++ q ++ [(b : Int)] ∧ q ++ [(b : Int)] <+: R ∧ b < 128 ∧ (p ++ q ≠ [] → b ≠ 0) ∧ b * 128 ^ (p ++ q).length ≤ m ∧ Hi q
  | [], _, _, _, h, _, _ => h.elim
  | [b], m, p, R, h, hp, hc => by
    obtain ⟨h1, h2⟩ := h
    cases p with
    | nil => exact ⟨[], m, by rw [h1]; rfl, by rw [← h1]; simpa using hc, h2, fun e => absurd rfl e, by simp, fun x hx => by cases hx⟩
    | cons x p =>
      obtain ⟨t, e⟩ := hc
      simp at e
      have := hp x (List.mem_cons_self ..)
      omega
  | b :: d :: c, m, p, R, h, hp, hc => by
    obtain ⟨h1, h0, h2⟩ := h
    cases p with
    | nil =>
      cases R with
      | nil => obtain ⟨t, e⟩ := hc; simp at e
      | cons r R =>
        obtain ⟨t, e⟩ := hc
        have e : b = r ∧ d :: c ++ t = R := by simpa using e
        obtain ⟨q, b', e1, e2, e3, e4, e5, e6⟩ := IsCode.past (p := []) (R := R) h2 (fun x hx => by cases hx) ⟨t, e.2⟩
        rw [List.nil_append] at e1 e5
        refine ⟨b :: q, b', by rw [e1]; rfl, ?_, e3, fun _ => ?_, ?_, ?_⟩
        · rw [← e.1, List.cons_append]
          exact List.cons_prefix_cons.2 ⟨rfl, e2⟩
        · intro hb
          subst hb
          cases q with
          | nil => obtain ⟨k1, _⟩ := (by rw [e1] at h2; exact h2 : IsCode ([] ++ [((0 : Nat) : Int)]) (m / 128)); omega
          | cons z q => exact e4 (by simp) rfl
        · rw [List.nil_append, List.length_cons, Nat.pow_succ]
          have := Nat.mul_le_mul_right 128 e5
          rw [Nat.mul_assoc] at this
          omega
        · intro y hy
          rcases List.mem_cons.1 hy with k | k
          · omega
          · exact e6 y k
    | cons x p =>
      obtain ⟨t, e⟩ := hc
      have e : b = x ∧ d :: c ++ t = p ++ R := by simpa using e
      obtain ⟨q, b', e1, e2, e3, e4, e5, e6⟩ := IsCode.past (p := p) (R := R) h2 (fun y hy => hp y (List.mem_cons_of_mem _ hy)) ⟨t, e.2⟩
      refine ⟨q, b', by rw [e1, e.1]; rfl, e2, e3, fun _ => ?_, ?_, e6⟩
      · intro hb
        subst hb
        cases hpq : p ++ q with
        | nil =>
          rw [hpq] at e1
          obtain ⟨k1, _⟩ := (by rw [e1] at h2; exact h2 : IsCode ([] ++ [((0 : Nat) : Int)]) (m / 128))
          omega
        | cons z r => exact e4 (by rw [hpq]; simp) rfl
      · rw [List.cons_append, List.length_cons, Nat.pow_succ]
        have := Nat.mul_le_mul_right 128 e5
        rw [Nat.mul_assoc] at this
        omega
theorem no_end {p : List Int} (hp : Hi p) : NoCode p := fun c m _ hc hpre => by
  obtain ⟨q, b, _, h, _⟩ := hc.past (p := p) (R := []) hp (by simpa using hpre)
  obtain ⟨t, e⟩ := h
  simp at e
theorem no_zero {p R : List Int} (hp : Hi p) (h0 : p ≠ []) : NoCode (p ++ 0 :: R) := fun c m _ hc hpre => by
  obtain ⟨q, b, _, h, _, h2, _, h4⟩ := hc.past (p := p) (R := 0 :: R) hp hpre
  cases q with
  | nil =>
    obtain ⟨t, e⟩ := h
    simp at e
    exact h2 (by simpa using h0) (by omega)
  | cons z q =>
    obtain ⟨t, e⟩ := h
    simp at e
    have := h4 z (List.mem_cons_self ..)
    omega
theorem no_tenth {p R : List Int} {x : Int} (hp : Hi p) (hl : p.length = 9) (h1 : 1 < x % 128) : NoCode (p ++ x :: R) := fun c m hm hc hpre => by
  have h10 := hc.len (k := 10) (by have : (128 : Nat) ^ 10 = 1180591620717411303424 := by decide
                                   omega) (by omega)
  obtain ⟨q, b, e1, h, h2, _, h4, h5⟩ := hc.past (p := p) (R := x :: R) hp hpre
  rw [e1] at h10
  simp [hl] at h10
  have hq : q = [] := List.eq_nil_of_length_eq_zero (by omega)
  subst hq
  obtain ⟨t, e⟩ := h
  simp at e
  rw [List.append_nil, hl] at h4
  have e9 : (128 : Nat) ^ 9 = 9223372036854775808 := by decide
  rw [e9] at h4
  have : (b : Int) % 128 = b := by omega
  rw [e.1] at this
  omega
theorem no_long {p : List Int} {R : List Int} (hp : Hi p) (hl : 10 ≤ p.length) : NoCode (p ++ R) := fun c m hm hc hpre => by
  have h10 := hc.len (k := 10) (by have : (128 : Nat) ^ 10 = 1180591620717411303424 := by decide
                                   omega) (by omega)
  obtain ⟨q, b, e1, _⟩ := hc.past (p := p) (R := R) hp hpre
  rw [e1] at h10
  simp at h10
  omega

/-- What stands next: the number n in k bytes; or none (0 in 0 bytes). -/
def NextT (L : List Int) (n k : Nat) : Prop := (n < 18446744073709551616 ∧ k ≤ L.length ∧ IsCode (L.take k) n) ∨ (k = 0 ∧ n = 0 ∧ NoCode L)
theorem NextT.unique {L : List Int} {n k n' k' : Nat} (h : NextT L n k) (h' : NextT L n' k') : n = n' ∧ k = k' := by
  rcases h with ⟨h1, h2, h3⟩ | ⟨rfl, rfl, h1⟩ <;> rcases h' with ⟨g1, g2, g3⟩ | ⟨rfl, rfl, g1⟩
  · have e := h3.free g3 (List.take_prefix _ _) (List.take_prefix _ _)
    have : k = k' := by
      have := congrArg List.length e
      simp at this
      omega
    subst this
    exact ⟨h3.num g3, rfl⟩
  · exact absurd (List.take_prefix _ _) (g1 _ _ h1 h3)
  · exact absurd (List.take_prefix _ _) (h1 _ _ g1 g3)
  · exact ⟨rfl, rfl⟩
theorem NextT.pos {L : List Int} {n k : Nat} (h : NextT L n k) (hk : k ≠ 0) : n < 18446744073709551616 ∧ k ≤ L.length ∧ IsCode (L.take k) n := by
  rcases h with h | ⟨h, _⟩
  · exact h
  · exact absurd h hk
/-- Of a code with whatever behind it just the code is read. -/
theorem NextT.of_code {c R : List Int} {m : Nat} (h : IsCode c m) (hm : m < 18446744073709551616) : NextT (c ++ R) m c.length :=
  .inl ⟨hm, by simp, by simpa using h⟩
end Go.Proofs.Ytpoipobmkfphcaa

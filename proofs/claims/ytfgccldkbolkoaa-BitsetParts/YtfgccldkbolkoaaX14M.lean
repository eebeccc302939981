/-
  Bits of words: what is in a word and its neighbours, the words that the program's sets are made of.
-/
import Derived.Test.YtfgccldkbolkoaaB14Math
namespace Go.Proofs.Ytfgccldkbolkoaa
open Go.RowKit

theorem u64_lit (x : Int) (h0 : 0 ≤ x) (h1 : x < 18446744073709551616) : IntKind.u64.wrap x = x := by
  simp only [IntKind.wrap, IntKind.signed, IntKind.bits]
  simp
  omega
/-- The bit number 64 * q + r of a row of words. -/
theorem wbit_at (ws : List Int) (q r : Nat) (hr : r < 64) : wbit ws (64 * q + r) = ((ws.getD q 0).toNat).testBit r := by
  unfold wbit
  rw [show (64 * q + r) / 64 = q by omega, show (64 * q + r) % 64 = r by omega]
theorem andNot64 (a b : Nat) (ha : a < 18446744073709551616) (hb : b < 18446744073709551616) : ∃ m : Nat, bits .andNot .u64 (a : Int) (b : Int) = (m : Int) ∧ m < 18446744073709551616 ∧ ∀ j, m.testBit j = (a.testBit j && !b.testBit j) := by
  have h1 : (BitVec.ofInt 64 (a : Int)).toNat = a := by
    rw [BitVec.ofInt_natCast, BitVec.toNat_ofNat]; exact Nat.mod_eq_of_lt (by omega)
  have h2 : (BitVec.ofInt 64 (b : Int)).toNat = b := by
    rw [BitVec.ofInt_natCast, BitVec.toNat_ofNat]; exact Nat.mod_eq_of_lt (by omega)
  refine ⟨(BitVec.ofInt 64 (a : Int) &&& ~~~ BitVec.ofInt 64 (b : Int)).toNat, ?_, (BitVec.isLt _), fun j => ?_⟩
  · show IntKind.u64.wrap ((BitVec.ofInt 64 (a : Int) &&& ~~~ BitVec.ofInt 64 (b : Int)).toNat : Int) = _
    exact u64_lit _ (Int.natCast_nonneg _) (by have := BitVec.isLt (BitVec.ofInt 64 (a : Int) &&& ~~~ BitVec.ofInt 64 (b : Int)); omega)
  · rw [BitVec.toNat_and, Nat.testBit_and, h1]
    by_cases hj : j < 64
    · have : (~~~ BitVec.ofInt 64 (b : Int)).toNat.testBit j = !(b.testBit j) := by
        show (~~~ BitVec.ofInt 64 (b : Int)).getLsbD j = _
        rw [BitVec.getLsbD_not]
        simp only [hj, decide_true, Bool.true_and]
        show (!((BitVec.ofInt 64 (b : Int)).toNat.testBit j)) = _
        rw [h2]
      rw [this]
    · have : a.testBit j = false := Nat.testBit_lt_two_pow (Nat.lt_of_lt_of_le ha (Nat.pow_le_pow_right (by decide) (by omega) : 2 ^ 64 ≤ 2 ^ j))
      rw [this]
      simp
theorem bit_high {a j : Nat} (ha : a < 18446744073709551616) (hj : 64 ≤ j) : a.testBit j = false := Nat.testBit_lt_two_pow (Nat.lt_of_lt_of_le ha (Nat.pow_le_pow_right (by decide) hj : 2 ^ 64 ≤ 2 ^ j))
/-- How many numbers below n the word number q has: one at least. -/
def inWord (n q : Nat) : Nat := min (n - 64 * q) 64
theorem whole_bit (c j : Nat) : (2 ^ c - 1).testBit j = decide (j < c) := Nat.testBit_two_pow_sub_one ..
theorem whole_lt {c : Nat} (h : c ≤ 64) : 2 ^ c - 1 < 18446744073709551616 := by
  have : 2 ^ c ≤ 2 ^ 64 := Nat.pow_le_pow_right (by decide) h
  have := Nat.two_pow_pos c
  omega
/-- A shift and 1 less, as the machine reckons them: of 64 places all are set. -/
theorem whole_shl {c : Nat} (h : c ≤ 64) : IntKind.u64.wrap (IntKind.u64.wrap (1 * 2 ^ (min c 64)) - 1) = ((2 ^ c - 1 : Nat) : Int) := by
  rw [Nat.min_eq_left h]
  have hp : 2 ^ c ≤ 2 ^ 64 := Nat.pow_le_pow_right (by decide) h
  have h0 := Nat.two_pow_pos c
  have e1 : (1 * 2 ^ c : Int) = ((2 ^ c : Nat) : Int) := by simp
  rw [e1, show ((2 ^ c - 1 : Nat) : Int) = ((2 ^ c : Nat) : Int) - 1 by omega]
  generalize 2 ^ c = p at *
  simp only [IntKind.wrap, IntKind.signed, IntKind.bits]
  simp
  omega
/-- No bit above the bound in the last word. -/
theorem RightS.of_last {n : Nat} {ws : List Int} (hn : n ≤ 65536) (hl : ws.length = (n + 63) / 64) (h : ∀ q, ws.length = q + 1 → ∀ j, j < 64 → inWord n q ≤ j → ((ws.getD q 0).toNat).testBit j = false) : RightS (n : Int) ws := by
  refine ⟨by omega, by omega, by rw [hl]; omega, fun i h1 h2 => ?_⟩
  obtain ⟨q, hq⟩ : ∃ q, ws.length = q + 1 := ⟨ws.length - 1, by omega⟩
  have hq2 : i / 64 = q := by omega
  have := h q hq (i % 64) (by omega) (by unfold inWord; omega)
  unfold wbit
  rw [hq2]
  exact this
theorem RightS.last {n : Nat} {ws : List Int} (h : RightS (n : Int) ws) {q : Nat} (hq : ws.length = q + 1) {j : Nat} (hj : j < 64) (hi : inWord n q ≤ j) : ((ws.getD q 0).toNat).testBit j = false := by
  have hl := h.len
  have := h.top (64 * q + j) (by unfold inWord at hi; omega) (by omega)
  rw [wbit_at _ _ _ hj] at this
  exact this
/-- The word that has all its numbers below n. -/
theorem IsSet.whole_word (n q j : Nat) (hj : j < 64) : (2 ^ inWord n q - 1).testBit j = decide (64 * q + j < n) := by
  rw [whole_bit]
  unfold inWord
  congr 1
  rw [eq_iff_iff]
  omega
/-- A set word by word. -/
theorem IsSet.of_words {n : Nat} {f : Nat → Bool} {ws : List Int} (hl : ws.length = (n + 63) / 64) (hd : Digs 18446744073709551616 ws) (h : ∀ q, q < ws.length → ∀ j, j < 64 → ((ws.getD q 0).toNat).testBit j = (decide (64 * q + j < n) && f (64 * q + j))) : IsSet n f ws := ⟨hl, hd, fun i hi => by
  have := h (i / 64) (by omega) (i % 64) (by omega)
  rw [show 64 * (i / 64) + i % 64 = i by omega] at this
  exact this⟩
theorem IsSet.word {n : Nat} {f : Nat → Bool} {ws : List Int} (h : IsSet n f ws) {q : Nat} (hq : q < ws.length) {j : Nat} (hj : j < 64) : ((ws.getD q 0).toNat).testBit j = (decide (64 * q + j < n) && f (64 * q + j)) := by
  have := h.bits (64 * q + j) (by omega)
  rwa [wbit_at _ _ _ hj] at this
/-- One word of a row. -/
theorem digs_getD {ws : List Int} (hd : Digs 18446744073709551616 ws) (q : Nat) : 0 ≤ ws.getD q 0 ∧ ws.getD q 0 < 18446744073709551616 := by
  by_cases h : q < ws.length
  · have := hd ws[q] (List.getElem_mem h)
    simpa [List.getD, h] using this
  · have e : ws.getD q 0 = 0 := by simp [List.getD, h]
    rw [e]; omega
theorem digs_set {ws : List Int} (hd : Digs 18446744073709551616 ws) (q : Nat) {x : Nat} (hx : x < 18446744073709551616) : Digs 18446744073709551616 (ws.set q (x : Int)) := fun y hy => by
  rcases List.mem_or_eq_of_mem_set hy with e | e
  · exact hd y e
  · rw [e]; omega
/-- A number more, by 'or': whether it was there or not. -/
theorem IsSet.or_one {n : Nat} {f : Nat → Bool} {ws : List Int} (h : IsSet n f ws) {x : Nat} (hx : x < n) : IsSet n (fun i => f i || decide (i = x)) (ws.set (x / 64) (((ws.getD (x / 64) 0).toNat ||| 2 ^ (x % 64) : Nat) : Int)) := by
  have hl := h.len
  have hq : x / 64 < ws.length := by omega
  have hd := digs_getD h.dig (x / 64)
  have hp : 2 ^ (x % 64) < 2 ^ 64 := Nat.pow_lt_pow_right (by decide) (by omega)
  refine IsSet.of_words (by simp [hl]) (digs_set h.dig _ (Nat.or_lt_two_pow (n := 64) (by omega) hp)) (fun q hq2 j hj => ?_)
  rw [List.length_set] at hq2
  rw [getD_set hq]
  by_cases c : q = x / 64
  · rw [if_pos c, Int.toNat_natCast, Nat.testBit_or, Nat.testBit_two_pow, c, h.word hq hj]
    by_cases e : x % 64 = j
    · have e2 : 64 * (x / 64) + j = x := by omega
      have e3 : decide (x % 64 = j) = true := decide_eq_true e
      rw [e3, e2]
      simp [hx]
    · have e2 : ¬ 64 * (x / 64) + j = x := by omega
      simp [e, e2]
  · rw [if_neg c, h.word hq2 hj]
    have e2 : ¬ 64 * q + j = x := by omega
    simp [e2]
/-- Numbers of a set between two bounds, of which none is there. -/
theorem numsOfS_skip {f : Nat → Bool} {a b : Nat} (hab : a ≤ b) (h : ∀ i, a ≤ i → i < b → f i = false) : numsOfS b f = numsOfS a f := by
  induction b with
  | zero => rw [show a = 0 by omega]
  | succ b ih =>
    by_cases e : a = b + 1
    · rw [e]
    · rw [numsOfS_next, h b (by omega) (by omega), if_neg (by decide)]
      exact ih (by omega) (fun i h1 h2 => h i h1 (by omega))
theorem numsOfS_more (f : Nat → Bool) (a b : Nat) : (numsOfS (a + b) f).length = (numsOfS a f).length + (numsOfS b (fun j => f (a + j))).length := by
  induction b with
  | zero => rfl
  | succ b ih =>
    rw [← Nat.add_assoc, numsOfS_next, numsOfS_next]
    split
    · rw [List.length_append, List.length_append, ih]; simp; omega
    · exact ih
/-- The lowest bit of a word taken away. -/
theorem low_off {d s : Nat} (hd : d % 2 = 1) (j : Nat) : ((d * 2 ^ s) &&& (d * 2 ^ s - 1)).testBit j = ((d * 2 ^ s).testBit j && decide (j ≠ s)) := by
  have hp := Nat.two_pow_pos s
  have e1 : d * 2 ^ s - 1 = 2 ^ s * (d - 1) + (2 ^ s - 1) := by
    obtain ⟨k, rfl⟩ : ∃ k, d = k + 1 := ⟨d - 1, by omega⟩
    rw [Nat.add_mul, Nat.one_mul, Nat.add_sub_cancel, Nat.mul_comm k]
    omega
  rw [Nat.mul_comm d] at e1
  rw [Nat.testBit_and, Nat.mul_comm d, e1]
  by_cases c : j < s
  · have : (2 ^ s * d).testBit j = false := by rw [Nat.testBit_two_pow_mul]; simp; omega
    rw [this]; simp
  · rw [Nat.testBit_two_pow_mul_add _ (by omega) j, if_neg c, Nat.testBit_two_pow_mul]
    have hge : j ≥ s := by omega
    simp only [hge, decide_true, Bool.true_and]
    obtain ⟨k, hk⟩ : ∃ k, d = 2 * k + 1 := ⟨d / 2, by omega⟩
    subst hk
    by_cases e : j = s
    · subst e; simp
    · obtain ⟨m, hm⟩ : ∃ m, j - s = m + 1 := ⟨j - s - 1, by omega⟩
      rw [hm, show 2 * k + 1 - 1 = 2 * k by omega, Nat.testBit_succ, Nat.testBit_succ, show (2 * k + 1) / 2 = k by omega, show 2 * k / 2 = k by omega]
      simp [e]
theorem low_on {d s : Nat} (hd : d % 2 = 1) : (d * 2 ^ s).testBit s = true ∧ ∀ j, j < s → (d * 2 ^ s).testBit j = false := by
  rw [Nat.mul_comm]
  refine ⟨?_, fun j hj => ?_⟩
  · rw [Nat.testBit_two_pow_mul]; simp [hd]
  · rw [Nat.testBit_two_pow_mul]; simp; omega
end Go.Proofs.Ytfgccldkbolkoaa

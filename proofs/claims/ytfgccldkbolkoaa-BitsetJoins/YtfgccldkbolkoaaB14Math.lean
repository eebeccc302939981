/-
  Sets of small numbers, by the bits of their words.
-/
import Derived.Test.YtfgccldkbolkoaaW12A
namespace Go.Proofs.Ytfgccldkbolkoaa
open Go.RowKit

/-- The bit number i of a row of words. -/
def wbit (ws : List Int) (i : Nat) : Bool := ((ws.getD (i / 64) 0).toNat).testBit (i % 64)
/-- A set may be. -/
structure RightS (N : Int) (ws : List Int) : Prop where
  lo : 0 ≤ N
  hi : N ≤ 65536
  len : (ws.length : Int) = (N + 63) / 64
  top : ∀ i : Nat, N ≤ (i : Int) → i < 64 * ws.length → wbit ws i = false
/-- The words of the set of those numbers below n that f tells. -/
structure IsSet (n : Nat) (f : Nat → Bool) (ws : List Int) : Prop where
  len : ws.length = (n + 63) / 64
  dig : Digs 18446744073709551616 ws
  bits : ∀ i, i < 64 * ws.length → wbit ws i = (decide (i < n) && f i)
theorem word_ext {x y : Int} (hx : 0 ≤ x ∧ x < 18446744073709551616) (hy : 0 ≤ y ∧ y < 18446744073709551616) (h : ∀ j, j < 64 → x.toNat.testBit j = y.toNat.testBit j) : x = y := by
  have : x.toNat = y.toNat := Nat.eq_of_testBit_eq fun j => by
    by_cases c : j < 64
    · exact h j c
    · have h2 : 2 ^ 64 ≤ 2 ^ j := Nat.pow_le_pow_right (by decide) (by omega)
      rw [Nat.testBit_lt_two_pow (by omega), Nat.testBit_lt_two_pow (by omega)]
  omega
theorem words_ext {ws vs : List Int} (hl : ws.length = vs.length) (hw : Digs 18446744073709551616 ws) (hv : Digs 18446744073709551616 vs) (h : ∀ i, i < 64 * ws.length → wbit ws i = wbit vs i) : ws = vs := by
  apply List.ext_getElem hl
  intro q h1 h2
  refine word_ext (hw _ (List.getElem_mem h1)) (hv _ (List.getElem_mem h2)) (fun j hj => ?_)
  have := h (64 * q + j) (by omega)
  unfold wbit at this
  rw [show (64 * q + j) / 64 = q by omega, show (64 * q + j) % 64 = j by omega] at this
  simpa [List.getD, h1, h2] using this
theorem IsSet.unique {n : Nat} {f : Nat → Bool} {ws vs : List Int} (h : IsSet n f ws) (k : IsSet n f vs) : ws = vs := words_ext (h.len.trans k.len.symm) h.dig k.dig (fun i hi => by rw [h.bits i hi, k.bits i (by rw [k.len, ← h.len]; exact hi)])
theorem IsSet.congr {n : Nat} {f g : Nat → Bool} {ws : List Int} (h : IsSet n f ws) (e : ∀ i, i < n → f i = g i) : IsSet n g ws := ⟨h.len, h.dig, fun i hi => by
  rw [h.bits i hi]
  by_cases c : i < n
  · rw [e i c]
  · simp [c]⟩
theorem IsSet.right {n : Nat} {f : Nat → Bool} {ws : List Int} (h : IsSet n f ws) (hn : n ≤ 65536) : RightS n ws := ⟨by omega, by omega, by rw [h.len]; omega, fun i h1 h2 => by rw [h.bits i h2]; simp; omega⟩
theorem RightS.set {N : Int} {ws : List Int} (h : RightS N ws) (hd : Digs 18446744073709551616 ws) : IsSet N.toNat (wbit ws) ws := ⟨by have := h.len; have := h.lo; omega, hd, fun i hi => by
  by_cases c : i < N.toNat
  · simp [c]
  · rw [h.top i (by have := h.lo; omega) hi]
    simp [c]⟩
theorem IsSet.at {n : Nat} {f : Nat → Bool} {ws : List Int} (h : IsSet n f ws) {i : Nat} (hi : i < n) : wbit ws i = f i := by
  rw [h.bits i (by rw [h.len]; omega)]
  simp [hi]
theorem testBit_div (m k : Nat) : m.testBit k = decide (m / 2 ^ k % 2 = 1) := Nat.testBit_eq_decide_div_mod_eq
/-- One bit more. -/
theorem add_bit {m r : Nat} (h : m.testBit r = false) (j : Nat) : (m + 2 ^ r).testBit j = (m.testBit j || decide (j = r)) := by
  rw [Nat.add_comm]
  by_cases c : j < r
  · rw [Nat.testBit_two_pow_add_gt c]
    simp [Nat.ne_of_lt c]
  · by_cases e : j = r
    · subst e
      rw [Nat.testBit_two_pow_add_eq, h]
      simp
    · have hr : (2 ^ r + m) / 2 ^ (r + 1) = m / 2 ^ (r + 1) := by
        rw [testBit_div] at h
        have h0 : m / 2 ^ r % 2 = 0 := by
          have := of_decide_eq_false h
          omega
        have p : 2 ^ (r + 1) = 2 ^ r * 2 := Nat.pow_succ ..
        rw [p, ← Nat.div_div_eq_div_mul, ← Nat.div_div_eq_div_mul, Nat.add_comm, Nat.add_div_right _ (Nat.two_pow_pos r)]
        omega
      have hj : 2 ^ j = 2 ^ (r + 1) * 2 ^ (j - (r + 1)) := by rw [← Nat.pow_add]; congr 1; omega
      rw [testBit_div, testBit_div, hj, ← Nat.div_div_eq_div_mul, ← Nat.div_div_eq_div_mul, hr]
      simp [e]
theorem add_bit_lt {m r : Nat} (hm : m < 18446744073709551616) (hr : r < 64) (h : m.testBit r = false) : m + 2 ^ r < 18446744073709551616 := by
  refine Nat.lt_pow_two_of_testBit (n := 64) _ (fun j hj => ?_)
  rw [add_bit h, Nat.testBit_lt_two_pow (Nat.lt_of_lt_of_le hm (Nat.pow_le_pow_right (by decide) hj : 2 ^ 64 ≤ 2 ^ j))]
  simp
  omega
theorem getD_set {ws : List Int} {q p : Nat} {x : Int} (hq : q < ws.length) : (ws.set q x).getD p 0 = if p = q then x else ws.getD p 0 := by
  unfold List.getD
  rw [List.getElem?_set]
  by_cases c : q = p
  · subst c
    simp [hq]
  · rw [if_neg c, if_neg (fun e => c e.symm)]
/-- A number more in a set. -/
theorem IsSet.more {n : Nat} {f : Nat → Bool} {ws : List Int} (h : IsSet n f ws) {x : Nat} (hx : x < n) (hf : wbit ws x = false) : (ws.getD (x / 64) 0).toNat + 2 ^ (x % 64) < 18446744073709551616 ∧ IsSet n (fun i => f i || decide (i = x)) (ws.set (x / 64) (((ws.getD (x / 64) 0).toNat + 2 ^ (x % 64) : Nat) : Int)) := by
  have hl := h.len
  have hq : x / 64 < ws.length := by rw [hl]; omega
  have hdg : 0 ≤ ws.getD (x / 64) 0 ∧ ws.getD (x / 64) 0 < 18446744073709551616 := by
    have := h.dig ws[x / 64] (List.getElem_mem hq)
    simpa [List.getD, hq] using this
  have hlt := add_bit_lt (m := (ws.getD (x / 64) 0).toNat) (r := x % 64) (by omega) (by omega) hf
  refine ⟨hlt, ⟨by simp [hl], fun y hy => ?_, fun i hi => ?_⟩⟩
  · rcases List.mem_or_eq_of_mem_set hy with e | e
    · exact h.dig y e
    · rw [e]
      exact ⟨Int.natCast_nonneg _, Int.ofNat_lt.2 hlt⟩
  · rw [List.length_set] at hi
    have hb := h.bits i hi
    unfold wbit at hb ⊢
    rw [getD_set hq]
    by_cases c : i / 64 = x / 64
    · rw [if_pos c, Int.toNat_natCast, add_bit hf, ← c, hb]
      by_cases e : i = x
      · subst e
        simp [hx]
      · have e2 : ¬ i % 64 = x % 64 := by omega
        simp [e, e2]
    · rw [if_neg c, hb]
      have e : ¬ i = x := fun e => c (by rw [e])
      simp [e]
theorem IsSet.empty (n : Nat) : IsSet n (fun _ => false) (List.replicate ((n + 63) / 64) 0) := ⟨by simp, fun x hx => by rw [List.eq_of_mem_replicate hx]; omega, fun i hi => by
  rw [List.length_replicate] at hi
  unfold wbit
  rw [show (List.replicate ((n + 63) / 64) (0 : Int)).getD (i / 64) 0 = 0 by simp [List.getD, List.getElem?_replicate]; split <;> rfl]
  simp⟩
/-- The numbers of a set. -/
def numsOfS (n : Nat) (f : Nat → Bool) : List Nat := (List.range n).filter f
theorem numsOfS_mem (n : Nat) (f : Nat → Bool) (i : Nat) : i ∈ numsOfS n f ↔ i < n ∧ f i = true := by simp [numsOfS]
theorem numsOfS_congr {n : Nat} {f g : Nat → Bool} (h : ∀ i, i < n → f i = g i) : numsOfS n f = numsOfS n g := List.filter_congr fun i hi => by rw [h i (List.mem_range.1 hi)]
theorem numsOfS_next (n : Nat) (f : Nat → Bool) : numsOfS (n + 1) f = if f n = true then numsOfS n f ++ [n] else numsOfS n f := by
  unfold numsOfS
  rw [List.range_succ, List.filter_append]
  split
  · rename_i h
    simp [h]
  · rename_i h
    simp [h]
theorem numsOfS_len (n : Nat) (f : Nat → Bool) : (numsOfS n f).length ≤ n := Nat.le_trans (List.length_filter_le _ _) (by simp)
theorem count_parts (n : Nat) (f g : Nat → Bool) : (numsOfS n (fun i => f i && g i)).length + (numsOfS n (fun i => f i && !g i)).length = (numsOfS n f).length := by
  induction n with
  | zero => rfl
  | succ n ih =>
    rw [numsOfS_next, numsOfS_next, numsOfS_next]
    cases hf : f n <;> cases hg : g n <;> simp <;> omega
/-- What is told of a set of numbers that are listed. -/
def inList (l : List Int) (i : Nat) : Bool := decide ((i : Int) ∈ l)
def ResOf (n : Int) (l : List Int) (N : Int) (ws : List Int) (err : Int) : Prop :=
  ((n < 0 ∨ 65536 < n ∨ ∃ x, x ∈ l ∧ (x < 0 ∨ n ≤ x)) ∧ N = 0 ∧ ws = [] ∧ err = 1) ∨ ((0 ≤ n ∧ n ≤ 65536 ∧ ∀ x, x ∈ l → 0 ≤ x ∧ x < n) ∧ N = n ∧ IsSet n.toNat (inList l) ws ∧ err = 0)
theorem ResOf.unique {n : Int} {l : List Int} {N N' : Int} {ws ws' : List Int} {err err' : Int} (h : ResOf n l N ws err) (k : ResOf n l N' ws' err') : N = N' ∧ ws = ws' ∧ err = err' := by
  rcases h with ⟨h0, h1, h2, h3⟩ | ⟨⟨h4, h5, h6⟩, h1, h2, h3⟩ <;> rcases k with ⟨k0, k1, k2, k3⟩ | ⟨⟨k4, k5, k6⟩, k1, k2, k3⟩
  · exact ⟨h1.trans k1.symm, h2.trans k2.symm, h3.trans k3.symm⟩
  · rcases h0 with e | e | ⟨x, e1, e2⟩
    · omega
    · omega
    · have := k6 x e1; omega
  · rcases k0 with e | e | ⟨x, e1, e2⟩
    · omega
    · omega
    · have := h6 x e1; omega
  · exact ⟨h1.trans k1.symm, h2.unique k2, h3.trans k3.symm⟩
/-- What is told of two sets together. -/
def ResJoin (op : Bool → Bool → Bool) (M : Int) (ws : List Int) (M' : Int) (vs : List Int) (N : Int) (us : List Int) (err : Int) : Prop :=
  (¬ (RightS M ws ∧ RightS M' vs ∧ M = M') ∧ N = 0 ∧ us = [] ∧ err = 1) ∨ ((RightS M ws ∧ RightS M' vs ∧ M = M') ∧ N = M ∧ IsSet M.toNat (fun i => op (wbit ws i) (wbit vs i)) us ∧ err = 0)
theorem ResJoin.unique {op : Bool → Bool → Bool} {M M' N N' : Int} {ws vs us us' : List Int} {err err' : Int} (h : ResJoin op M ws M' vs N us err) (k : ResJoin op M ws M' vs N' us' err') : N = N' ∧ us = us' ∧ err = err' := by
  rcases h with ⟨h0, h1, h2, h3⟩ | ⟨h0, h1, h2, h3⟩ <;> rcases k with ⟨k0, k1, k2, k3⟩ | ⟨k0, k1, k2, k3⟩
  · exact ⟨h1.trans k1.symm, h2.trans k2.symm, h3.trans k3.symm⟩
  · exact absurd k0 h0
  · exact absurd h0 k0
  · exact ⟨h1.trans k1.symm, h2.unique k2, h3.trans k3.symm⟩
/-- The list of a set; how many are in it. -/
def ResList (N : Int) (ws : List Int) (l : List Nat) : Prop := (RightS N ws ∧ l = numsOfS N.toNat (wbit ws)) ∨ (¬ RightS N ws ∧ l = [])
theorem ResList.unique {N : Int} {ws : List Int} {l l' : List Nat} (h : ResList N ws l) (k : ResList N ws l') : l = l' := by
  rcases h with ⟨h1, h2⟩ | ⟨h1, h2⟩ <;> rcases k with ⟨k1, k2⟩ | ⟨k1, k2⟩
  · exact h2.trans k2.symm
  · exact absurd h1 k1
  · exact absurd k1 h1
  · exact h2.trans k2.symm
def ResHas (N : Int) (ws : List Int) (i : Int) (b : Bool) : Prop := b = true ↔ (RightS N ws ∧ 0 ≤ i ∧ i < N ∧ wbit ws i.toNat = true)
theorem ResHas.unique {N : Int} {ws : List Int} {i : Int} {b b' : Bool} (h : ResHas N ws i b) (k : ResHas N ws i b') : b = b' := Bool.eq_iff_iff.2 (Iff.trans h (Iff.symm k))
end Go.Proofs.Ytfgccldkbolkoaa

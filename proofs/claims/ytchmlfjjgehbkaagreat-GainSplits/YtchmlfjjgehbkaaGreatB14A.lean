/-
  Sets of small numbers, by the bits of their words.
  Tables of rows with ids, and what is asked of them, by definition.
  Bits of words: what is in a word and its neighbours, the words that the program's sets are made of.
-/
import Derived.Test.YtchmlfjjgehbkaaGreatW12A
namespace Go.Proofs.YtchmlfjjgehbkaaGreat
open Go.RowKit

/-- The bit number i of a row of words. -/
def wbit (ws : List Int) (i : Nat) : Bool := ((ws.getD (i / 64) 0).toNat).testBit (i % 64)
/-- A set may be. -/
structure RightS (N : Int) (ws : List Int) : Prop where
  lo : 0 ≤ N
  hi : N ≤ 65536
  len : (ws.length : Int) = (N + 63) / 64
  top : ∀ i : Nat, N ≤ (i : Int) → i < 64 * ws.length → wbit ws i = false
/-- The words of the set of those numbers below n that f tells. -/
structure IsSet (n : Nat) (f : Nat → Bool) (ws : List Int) : Prop where
  len : ws.length = (n + 63) / 64
  dig : Digs 18446744073709551616 ws
  bits : ∀ i, i < 64 * ws.length → wbit ws i = (decide (i < n) && f i)
theorem word_ext {x y : Int} (hx : 0 ≤ x ∧ x < 18446744073709551616) (hy : 0 ≤ y ∧ y < 18446744073709551616) (h : ∀ j, j < 64 → x.toNat.testBit j = y.toNat.testBit j) : x = y := by
  have : x.toNat = y.toNat := Nat.eq_of_testBit_eq fun j => by
    by_cases c : j < 64
    · exact h j c
    · have h2 : 2 ^ 64 ≤ 2 ^ j := Nat.pow_le_pow_right (by decide) (by omega)
      rw [Nat.testBit_lt_two_pow (by omega), Nat.testBit_lt_two_pow (by omega)]
  omega
theorem words_ext {ws vs : List Int} (hl : ws.length = vs.length) (hw : Digs 18446744073709551616 ws) (hv : Digs 18446744073709551616 vs) (h : ∀ i, i < 64 * ws.length → wbit ws i = wbit vs i) : ws = vs := by
  apply List.ext_getElem hl
  intro q h1 h2
  refine word_ext (hw _ (List.getElem_mem h1)) (hv _ (List.getElem_mem h2)) (fun j hj => ?_)
  have := h (64 * q + j) (by omega)
  unfold wbit at this
  rw [show (64 * q + j) / 64 = q by omega, show (64 * q + j) % 64 = j by omega] at this
  simpa [List.getD, h1, h2] using this
theorem IsSet.unique {n : Nat} {f : Nat → Bool} {ws vs : List Int} (h : IsSet n f ws) (k : IsSet n f vs) : ws = vs := words_ext (h.len.trans k.len.symm) h.dig k.dig (fun i hi => by rw [h.bits i hi, k.bits i (by rw [k.len, ← h.len]; exact hi)])
theorem IsSet.congr {n : Nat} {f g : Nat → Bool} {ws : List Int} (h : IsSet n f ws) (e : ∀ i, i < n → f i = g i) : IsSet n g ws := ⟨h.len, h.dig, fun i hi => by
  rw [h.bits i hi]
  by_cases c : i < n
  · rw [e i c]
  · simp [c]⟩
theorem IsSet.right {n : Nat} {f : Nat → Bool} {ws : List Int} (h : IsSet n f ws) (hn : n ≤ 65536) : RightS n ws := ⟨by omega, by omega, by rw [h.len]; omega, fun i h1 h2 => by rw [h.bits i h2]; simp; omega⟩
theorem RightS.set {N : Int} {ws : List Int} (h : RightS N ws) (hd : Digs 18446744073709551616 ws) : IsSet N.toNat (wbit ws) ws := ⟨by have := h.len; have := h.lo; omega, hd, fun i hi => by
  by_cases c : i < N.toNat
  · simp [c]
  · rw [h.top i (by have := h.lo; omega) hi]
    simp [c]⟩
theorem IsSet.at {n : Nat} {f : Nat → Bool} {ws : List Int} (h : IsSet n f ws) {i : Nat} (hi : i < n) : wbit ws i = f i := by
  rw [h.bits i (by rw [h.len]; omega)]
  simp [hi]
theorem testBit_div (m k : Nat) : m.testBit k = decide (m / 2 ^ k % 2 = 1) := Nat.testBit_eq_decide_div_mod_eq
/-- One bit more. -/
theorem add_bit {m r : Nat} (h : m.testBit r = false) (j : Nat) : (m + 2 ^ r).testBit j = (m.testBit j || decide (j = r)) := by
  rw [Nat.add_comm]
  by_cases c : j < r
  · rw [Nat.testBit_two_pow_add_gt c]
    simp [Nat.ne_of_lt c]
  · by_cases e : j = r
    · subst e
      rw [Nat.testBit_two_pow_add_eq, h]
      simp
    · have hr : (2 ^ r + m) / 2 ^ (r + 1) = m / 2 ^ (r + 1) := by
        rw [testBit_div] at h
        have h0 : m / 2 ^ r % 2 = 0 := by
          have := of_decide_eq_false h
          omega
        have p : 2 ^ (r + 1) = 2 ^ r * 2 := Nat.pow_succ ..
        rw [p, ← Nat.div_div_eq_div_mul, ← Nat.div_div_eq_div_mul, Nat.add_comm, Nat.add_div_right _ (Nat.two_pow_pos r)]
        omega
      have hj : 2 ^ j = 2 ^ (r + 1) * 2 ^ (j - (r + 1)) := by rw [← Nat.pow_add]; congr 1; omega
      rw [testBit_div, testBit_div, hj, ← Nat.div_div_eq_div_mul, ← Nat.div_div_eq_div_mul, hr]
      simp [e]
theorem add_bit_lt {m r : Nat} (hm : m < 18446744073709551616) (hr : r < 64) (h : m.testBit r = false) : m + 2 ^ r < 18446744073709551616 := by
  refine Nat.lt_pow_two_of_testBit (n := 64) _ (fun j hj => ?_)
  rw [add_bit h, Nat.testBit_lt_two_pow (Nat.lt_of_lt_of_le hm (Nat.pow_le_pow_right (by decide) hj : 2 ^ 64 ≤ 2 ^ j))]
  simp
  omega
theorem getD_set {ws : List Int} {q p : Nat} {x : Int} (hq : q < ws.length) : (ws.set q x).getD p 0 = if p = q then x else ws.getD p 0 := by
  unfold List.getD
  rw [List.getElem?_set]
  by_cases c : q = p
  · subst c
    simp [hq]
  · rw [if_neg c, if_neg (fun e => c e.symm)]
/-- A number more in a set. -/
theorem IsSet.more {n : Nat} {f : Nat → Bool} {ws : List Int} (h : IsSet n f ws) {x : Nat} (hx : x < n) (hf : wbit ws x = false) : (ws.getD (x / 64) 0).toNat + 2 ^ (x % 64) < 18446744073709551616 ∧ IsSet n (fun i => f i || decide (i = x)) (ws.set (x / 64) (((ws.getD (x / 64) 0).toNat + 2 ^ (x % 64) : Nat) : Int)) := by
  have hl := h.len
  have hq : x / 64 < ws.length := by rw [hl]; omega
  have hdg : 0 ≤ ws.getD (x / 64) 0 ∧ ws.getD (x / 64) 0 < 18446744073709551616 := by
    have := h.dig ws[x / 64] (List.getElem_mem hq)
    simpa [List.getD, hq] using this
  have hlt := add_bit_lt (m := (ws.getD (x / 64) 0).toNat) (r := x % 64) (by omega) (by omega) hf
  refine ⟨hlt, ⟨by simp [hl], fun y hy => ?_, fun i hi => ?_⟩⟩
  · rcases List.mem_or_eq_of_mem_set hy with e | e
    · exact h.dig y e
    · rw [e]
      exact ⟨Int.natCast_nonneg _, Int.ofNat_lt.2 hlt⟩
  · rw [List.length_set] at hi
    have hb := h.bits i hi
    unfold wbit at hb ⊢
    rw [getD_set hq]
    by_cases c : i / 64 = x / 64
    · rw [if_pos c, Int.toNat_natCast, add_bit hf, ← c, hb]
      by_cases e : i = x
      · subst e
        simp [hx]
      · have e2 : ¬ i % 64 = x % 64 := by omega
        simp [e, e2]
    · rw [if_neg c, hb]
      have e : ¬ i = x := fun e => c (by rw [e])
      simp [e]
theorem IsSet.empty (n : Nat) : IsSet n (fun _ => false) (List.replicate ((n + 63) / 64) 0) := ⟨by simp, fun x hx => by rw [List.eq_of_mem_replicate hx]; omega, fun i hi => by
  rw [List.length_replicate] at hi
  unfold wbit
  rw [show (List.replicate ((n + 63) / 64) (0 : Int)).getD (i / 64) 0 = 0 by simp [List.getD, List.getElem?_replicate]; split <;> rfl]
  simp⟩
/-- The numbers of a set. -/
def numsOfS (n : Nat) (f : Nat → Bool) : List Nat := (List.range n).filter f
theorem numsOfS_mem (n : Nat) (f : Nat → Bool) (i : Nat) : i ∈ numsOfS n f ↔ i < n ∧ f i = true := by simp [numsOfS]
theorem numsOfS_congr {n : Nat} {f g : Nat → Bool} (h : ∀ i, i < n → f i = g i) : numsOfS n f = numsOfS n g := List.filter_congr fun i hi => by rw [h i (List.mem_range.1 hi)]
theorem numsOfS_next (n : Nat) (f : Nat → Bool) : numsOfS (n + 1) f = if f n = true then numsOfS n f ++ [n] else numsOfS n f := by
  unfold numsOfS
  rw [List.range_succ, List.filter_append]
  split
  · rename_i h
    simp [h]
  · rename_i h
    simp [h]
theorem numsOfS_len (n : Nat) (f : Nat → Bool) : (numsOfS n f).length ≤ n := Nat.le_trans (List.length_filter_le _ _) (by simp)
theorem count_parts (n : Nat) (f g : Nat → Bool) : (numsOfS n (fun i => f i && g i)).length + (numsOfS n (fun i => f i && !g i)).length = (numsOfS n f).length := by
  induction n with
  | zero => rfl
  | succ n ih =>
    rw [numsOfS_next, numsOfS_next, numsOfS_next]
    cases hf : f n <;> cases hg : g n <;> simp <;> omega
/-- What is told of a set of numbers that are listed. -/
def inList (l : List Int) (i : Nat) : Bool := decide ((i : Int) ∈ l)
def ResOf (n : Int) (l : List Int) (N : Int) (ws : List Int) (err : Int) : Prop :=
  ((n < 0 ∨ 65536 < n ∨ ∃ x, x ∈ l ∧ (x < 0 ∨ n ≤ x)) ∧ N = 0 ∧ ws = [] ∧ err = 1) ∨ ((0 ≤ n ∧ n ≤ 65536 ∧ ∀ x, x ∈ l → 0 ≤ x ∧ x < n) ∧ N = n ∧ IsSet n.toNat (inList l) ws ∧ err = 0)
theorem ResOf.unique {n : Int} {l : List Int} {N N' : Int} {ws ws' : List Int} {err err' : Int} (h : ResOf n l N ws err) (k : ResOf n l N' ws' err') : N = N' ∧ ws = ws' ∧ err = err' := by
  rcases h with ⟨h0, h1, h2, h3⟩ | ⟨⟨h4, h5, h6⟩, h1, h2, h3⟩ <;> rcases k with ⟨k0, k1, k2, k3⟩ | ⟨⟨k4, k5, k6⟩, k1, k2, k3⟩
  · exact ⟨h1.trans k1.symm, h2.trans k2.symm, h3.trans k3.symm⟩
  · rcases h0 with e | e | ⟨x, e1, e2⟩
    · omega
    · omega
    · have := k6 x e1; omega
  · rcases k0 with e | e | ⟨x, e1, e2⟩
    · omega
    · omega
    · have := h6 x e1; omega
  · exact ⟨h1.trans k1.symm, h2.unique k2, h3.trans k3.symm⟩
/-- What is told of two sets together. -/
def ResJoin (op : Bool → Bool → Bool) (M : Int) (ws : List Int) (M' : Int) (vs : List Int) (N : Int) (us : List Int) (err : Int) : Prop :=
  (¬ (RightS M ws ∧ RightS M' vs ∧ M = M') ∧ N = 0 ∧ us = [] ∧ err = 1) ∨ ((RightS M ws ∧ RightS M' vs ∧ M = M') ∧ N = M ∧ IsSet M.toNat (fun i => op (wbit ws i) (wbit vs i)) us ∧ err = 0)
theorem ResJoin.unique {op : Bool → Bool → Bool} {M M' N N' : Int} {ws vs us us' : List Int} {err err' : Int} (h : ResJoin op M ws M' vs N us err) (k : ResJoin op M ws M' vs N' us' err') : N = N' ∧ us = us' ∧ err = err' := by
  rcases h with ⟨h0, h1, h2, h3⟩ | ⟨h0, h1, h2, h3⟩ <;> rcases k with ⟨k0, k1, k2, k3⟩ | ⟨k0, k1, k2, k3⟩
  · exact ⟨h1.trans k1.symm, h2.trans k2.symm, h3.trans k3.symm⟩
  · exact absurd k0 h0
  · exact absurd h0 k0
  · exact ⟨h1.trans k1.symm, h2.unique k2, h3.trans k3.symm⟩
/-- The list of a set; how many are in it. -/
def ResList (N : Int) (ws : List Int) (l : List Nat) : Prop := (RightS N ws ∧ l = numsOfS N.toNat (wbit ws)) ∨ (¬ RightS N ws ∧ l = [])
theorem ResList.unique {N : Int} {ws : List Int} {l l' : List Nat} (h : ResList N ws l) (k : ResList N ws l') : l = l' := by
  rcases h with ⟨h1, h2⟩ | ⟨h1, h2⟩ <;> rcases k with ⟨k1, k2⟩ | ⟨k1, k2⟩
  · exact h2.trans k2.symm
  · exact absurd h1 k1
  · exact absurd k1 h1
  · exact h2.trans k2.symm
def ResHas (N : Int) (ws : List Int) (i : Int) (b : Bool) : Prop := b = true ↔ (RightS N ws ∧ 0 ≤ i ∧ i < N ∧ wbit ws i.toNat = true)
theorem ResHas.unique {N : Int} {ws : List Int} {i : Int} {b b' : Bool} (h : ResHas N ws i b) (k : ResHas N ws i b') : b = b' := Bool.eq_iff_iff.2 (Iff.trans h (Iff.symm k))
end Go.Proofs.YtchmlfjjgehbkaaGreat

namespace Go.Proofs.YtchmlfjjgehbkaaGreat
open Go.RowKit

/-- Where a number stands first in a list. -/
def idx : List Int → Int → Nat
  | [], _ => 0
  | y :: l, x => if y = x then 0 else idx l x + 1
theorem idx_le (x : Int) : ∀ l : List Int, idx l x ≤ l.length
  | [] => Nat.le_refl _
  | y :: l => by
    unfold idx
    split
    · exact Nat.zero_le _
    · have := idx_le x l
      simp
      omega
theorem idx_lt {x : Int} : ∀ {l : List Int}, idx l x < l.length ↔ x ∈ l
  | [] => by simp [idx]
  | y :: l => by
    unfold idx
    split
    · rename_i h
      simp [h]
    · rename_i h
      have := idx_lt (x := x) (l := l)
      have h' : ¬ x = y := fun e => h e.symm
      simp [this, h']
theorem idx_get {x : Int} : ∀ {l : List Int}, x ∈ l → l.getD (idx l x) 0 = x
  | [], h => by cases h
  | y :: l, h => by
    unfold idx
    split
    · rename_i e
      simp [e]
    · rename_i e
      rcases List.mem_cons.1 h with h | h
      · exact absurd h.symm e
      · simpa using idx_get h
theorem idx_first {x : Int} : ∀ {l : List Int} {j : Nat}, j < idx l x → l.getD j 0 ≠ x
  | [], j, h => by simp [idx] at h
  | y :: l, j, h => by
    unfold idx at h
    split at h
    · omega
    · rename_i e
      cases j with
      | zero => simpa using e
      | succ j => simpa using idx_first (l := l) (j := j) (by omega)
theorem idx_is {l : List Int} {x : Int} {k : Nat} (hk : k < l.length) (hx : l.getD k 0 = x) (h : ∀ j, j < k → l.getD j 0 ≠ x) : idx l x = k := by
  have hm : x ∈ l := by rw [← hx]; simp [List.getD, List.getElem?_eq_getElem hk]
  have h1 := idx_lt.2 hm
  have h2 := idx_get hm
  by_cases c : idx l x < k
  · exact absurd h2 (h _ c)
  · by_cases c2 : k < idx l x
    · exact absurd hx (idx_first c2)
    · omega
def placeI (l : List Int) (x : Int) : Int := if x ∈ l then (idx l x : Int) else -1
theorem placeI_is {l : List Int} {x : Int} {k : Nat} (hk : k < l.length) (hx : l.getD k 0 = x) (h : ∀ j, j < k → l.getD j 0 ≠ x) : placeI l x = (k : Int) := by
  have hm : x ∈ l := by rw [← hx]; simp [List.getD, List.getElem?_eq_getElem hk]
  unfold placeI
  rw [if_pos hm, idx_is hk hx h]
theorem placeI_no {l : List Int} {x : Int} (h : ∀ j, j < l.length → l.getD j 0 ≠ x) : placeI l x = -1 := by
  unfold placeI
  rw [if_neg]
  intro hm
  exact h _ (idx_lt.2 hm) (idx_get hm)
theorem placeI_pos {l : List Int} {x : Int} : 0 ≤ placeI l x ↔ x ∈ l := by
  unfold placeI
  split
  · rename_i h
    simp [h]
  · rename_i h
    simp [h]
theorem placeI_at {l : List Int} {x : Int} (h : x ∈ l) : placeI l x = (idx l x : Int) := by unfold placeI; rw [if_pos h]
theorem placeI_word (l : List Int) (x : Int) : placeI l x = -1 ∨ ∃ k : Nat, placeI l x = (k : Int) ∧ k < l.length := by
  unfold placeI
  split
  · rename_i h
    exact .inr ⟨_, rfl, idx_lt.2 h⟩
  · exact .inl rfl
theorem mem_getD {l : List Int} {k : Nat} (hk : k < l.length) : l.getD k 0 ∈ l := by simp [List.getD, List.getElem?_eq_getElem hk]
theorem nodup_idx {l : List Int} : l.Nodup ↔ ∀ i, i < l.length → placeI l (l.getD i 0) = (i : Int) := by
  constructor
  · intro h i hi
    refine placeI_is hi rfl (fun j hj e => ?_)
    have hj2 : j < l.length := by omega
    have := (List.pairwise_iff_getElem.1 h) j i hj2 hi hj
    apply this
    simpa [List.getD, List.getElem?_eq_getElem hi, List.getElem?_eq_getElem hj2] using e
  · intro h
    refine List.pairwise_iff_getElem.2 (fun i j hi hj hij e => ?_)
    have h1 := h i hi
    have h2 := h j hj
    have e2 : l.getD i 0 = l.getD j 0 := by simpa [List.getD, List.getElem?_eq_getElem hi, List.getElem?_eq_getElem hj] using e
    rw [e2, h2] at h1
    omega
/-- Ids may be. -/
structure IdsOk (l : List Int) : Prop where
  few : l.length ≤ 256
  rng : ∀ x, x ∈ l → 0 ≤ x ∧ x ≤ 1073741824
  nod : l.Nodup
/-- A table. -/
structure Tab where
  ids : List Int
  bins : List Int
  cols : List (List Int)
def Tab.none : Tab := ⟨[], [], []⟩
structure ColOk (n : Nat) (b : Int) (c : List Int) : Prop where
  lo : 2 ≤ b
  hi : b ≤ 32
  len : c.length = n
  rng : ∀ k, k < n → 0 ≤ c.getD k 0 ∧ c.getD k 0 < b
/-- A table may be. -/
structure TabOk (t : Tab) : Prop where
  ids : IdsOk t.ids
  few : t.cols.length ≤ 16
  len : t.bins.length = t.cols.length
  col : ∀ i, i < t.cols.length → ColOk t.ids.length (t.bins.getD i 0) (t.cols.getD i [])
/-- The ids that all lists have. -/
structure IsAlign (Ls : List (List Int)) (xs : List Int) : Prop where
  rise : xs.Pairwise (· < ·)
  mem : ∀ x, x ∈ xs ↔ ∀ L, L ∈ Ls → x ∈ L
theorem rising_ext {xs ys : List Int} (hx : xs.Pairwise (· < ·)) (hy : ys.Pairwise (· < ·)) (h : ∀ x, x ∈ xs ↔ x ∈ ys) : xs = ys := by
  have p : xs.Perm ys := (List.perm_ext_iff_of_nodup (hx.imp fun {a b} h => by intro e; omega) (hy.imp fun {a b} h => by intro e; omega)).2 h
  exact List.Perm.eq_of_pairwise (le := fun a b => a < b) (fun a b _ _ h1 h2 => by omega) hx hy p
theorem IsAlign.unique {Ls : List (List Int)} {xs ys : List Int} (h : IsAlign Ls xs) (k : IsAlign Ls ys) : xs = ys := rising_ext h.rise k.rise (fun x => (h.mem x).trans (k.mem x).symm)
def FewL (n : Nat) : Prop := n ≠ 0 ∧ n ≤ 16
def IdsAll (Ls : List (List Int)) : Prop := ∀ L, L ∈ Ls → IdsOk L
def ResAlign (Ls : List (List Int)) (e : Int) (xs : List Int) : Prop := (¬ FewL Ls.length ∧ e = 1 ∧ xs = []) ∨ (FewL Ls.length ∧ ¬ IdsAll Ls ∧ e = 20 ∧ xs = []) ∨ (FewL Ls.length ∧ IdsAll Ls ∧ e = 0 ∧ IsAlign Ls xs)
theorem ResAlign.unique {Ls : List (List Int)} {e f : Int} {xs ys : List Int} (h : ResAlign Ls e xs) (k : ResAlign Ls f ys) : e = f ∧ xs = ys := by
  rcases h with ⟨h1, h2, h3⟩ | ⟨h1, h2, h3, h4⟩ | ⟨h1, h2, h3, h4⟩ <;> rcases k with ⟨k1, k2, k3⟩ | ⟨k1, k2, k3, k4⟩ | ⟨k1, k2, k3, k4⟩
  · exact ⟨by rw [h2, k2], by rw [h3, k3]⟩
  · exact absurd k1 h1
  · exact absurd k1 h1
  · exact absurd h1 k1
  · exact ⟨by rw [h3, k3], by rw [h4, k4]⟩
  · exact absurd k2 h2
  · exact absurd h1 k1
  · exact absurd h2 k2
  · exact ⟨by rw [h3, k3], h4.unique k4⟩
/-- A table's rows of some ids. -/
def Tab.take (t : Tab) (ids : List Int) : Tab := ⟨ids, t.bins, t.cols.map fun c => ids.map fun x => c.getD (idx t.ids x) 0⟩
structure TakeOk (t : Tab) (ids : List Int) : Prop where
  tab : TabOk t
  idl : IdsOk ids
  has : ∀ x, x ∈ ids → x ∈ t.ids
def ResTab15 (ok : Prop) (out : Tab) (e : Int) (r : Tab) : Prop := (¬ ok ∧ e = 20 ∧ r = Tab.none) ∨ (ok ∧ e = 0 ∧ r = out)
theorem ResTab15.unique {ok : Prop} {out : Tab} {e f : Int} {r s : Tab} (h : ResTab15 ok out e r) (k : ResTab15 ok out f s) : e = f ∧ r = s := by
  rcases h with ⟨h1, h2, h3⟩ | ⟨h1, h2, h3⟩ <;> rcases k with ⟨k1, k2, k3⟩ | ⟨k1, k2, k3⟩
  · exact ⟨by rw [h2, k2], by rw [h3, k3]⟩
  · exact absurd k1 h1
  · exact absurd h1 k1
  · exact ⟨by rw [h2, k2], by rw [h3, k3]⟩
/-- Tables as one. -/
def joinT (ts : List Tab) : Tab := ⟨(ts.getD 0 Tab.none).ids, ts.flatMap (·.bins), ts.flatMap (·.cols)⟩
def JoinOk (ts : List Tab) : Prop := ∀ i, i < ts.length → TabOk (ts.getD i Tab.none) ∧ (ts.getD i Tab.none).ids = (ts.getD 0 Tab.none).ids
def ResJoin15 (ts : List Tab) (e : Int) (r : Tab) : Prop := (¬ FewL ts.length ∧ e = 1 ∧ r = Tab.none) ∨ (FewL ts.length ∧ ResTab15 (JoinOk ts) (joinT ts) e r)
theorem ResJoin15.unique {ts : List Tab} {e f : Int} {r s : Tab} (h : ResJoin15 ts e r) (k : ResJoin15 ts f s) : e = f ∧ r = s := by
  rcases h with ⟨h1, h2, h3⟩ | ⟨h1, h2⟩ <;> rcases k with ⟨k1, k2, k3⟩ | ⟨k1, k2⟩
  · exact ⟨by rw [h2, k2], by rw [h3, k3]⟩
  · exact absurd k1 h1
  · exact absurd h1 k1
  · exact h2.unique k2
/-- The places to the left of a cut. -/
def LeftArg (t : Tab) (column cut : Int) : Prop := 0 ≤ column ∧ column < (t.cols.length : Int) ∧ 0 ≤ cut ∧ cut < t.bins.getD column.toNat 0
def leftF (t : Tab) (column cut : Int) (i : Nat) : Bool := decide ((t.cols.getD column.toNat []).getD i 0 ≤ cut)
def ResLeft (t : Tab) (column cut : Int) (e : Int) (N : Int) (ws : List Int) : Prop := (¬ TabOk t ∧ e = 20 ∧ N = 0 ∧ ws = []) ∨ (TabOk t ∧ ¬ LeftArg t column cut ∧ e = 1 ∧ N = 0 ∧ ws = []) ∨ (TabOk t ∧ LeftArg t column cut ∧ e = 0 ∧ N = (t.ids.length : Int) ∧ IsSet t.ids.length (leftF t column cut) ws)
theorem ResLeft.unique {t : Tab} {column cut e f N M : Int} {ws vs : List Int} (h : ResLeft t column cut e N ws) (k : ResLeft t column cut f M vs) : e = f ∧ N = M ∧ ws = vs := by
  rcases h with ⟨h1, h2, h3, h4⟩ | ⟨h1, h2, h3, h4, h5⟩ | ⟨h1, h2, h3, h4, h5⟩ <;> rcases k with ⟨k1, k2, k3, k4⟩ | ⟨k1, k2, k3, k4, k5⟩ | ⟨k1, k2, k3, k4, k5⟩
  · exact ⟨by rw [h2, k2], by rw [h3, k3], by rw [h4, k4]⟩
  · exact absurd k1 h1
  · exact absurd k1 h1
  · exact absurd h1 k1
  · exact ⟨by rw [h3, k3], by rw [h4, k4], by rw [h5, k5]⟩
  · exact absurd k2 h2
  · exact absurd h1 k1
  · exact absurd h2 k2
  · exact ⟨by rw [h3, k3], by rw [h4, k4], h5.unique k5⟩
/-- Taken by its own ids, a table is itself. -/
theorem Tab.take_self {t : Tab} (h : TabOk t) : t.take t.ids = t := by
  unfold Tab.take
  have e : t.cols.map (fun c => t.ids.map fun x => c.getD (idx t.ids x) 0) = t.cols := by
    apply List.ext_getElem (by simp)
    intro i h1 h2
    have hc := h.col i h2
    have hci : t.cols.getD i [] = t.cols[i] := by simp [List.getD, List.getElem?_eq_getElem h2]
    rw [hci] at hc
    rw [List.getElem_map]
    apply List.ext_getElem (by simp [hc.len])
    intro j k1 k2
    have hj : j < t.ids.length := by simpa using k1
    have hp := (nodup_idx.1 h.ids.nod) j hj
    rw [placeI_at (mem_getD hj)] at hp
    have hid : t.ids.getD j 0 = t.ids[j] := by simp [List.getD, List.getElem?_eq_getElem hj]
    rw [hid] at hp
    have hp' : idx t.ids t.ids[j] = j := by omega
    rw [List.getElem_map, hp']
    simp [List.getD, List.getElem?_eq_getElem k2]
  rw [e]
theorem Tab.take_ok {t : Tab} {ids : List Int} (h : TakeOk t ids) : TabOk (t.take ids) := by
  refine ⟨h.idl, by simpa [Tab.take] using h.tab.few, by simpa [Tab.take] using h.tab.len, fun i hi => ?_⟩
  have hi' : i < t.cols.length := by simpa [Tab.take] using hi
  have hc := h.tab.col i hi'
  have e : (t.take ids).cols.getD i [] = ids.map fun x => (t.cols.getD i []).getD (idx t.ids x) 0 := by simp [Tab.take, List.getD, List.getElem?_eq_getElem hi']
  rw [e]
  refine ⟨hc.lo, hc.hi, by simp [Tab.take], fun k hk => ?_⟩
  have hk' : k < ids.length := hk
  have e2 : (ids.map fun x => (t.cols.getD i []).getD (idx t.ids x) 0).getD k 0 = (t.cols.getD i []).getD (idx t.ids (ids.getD k 0)) 0 := by simp [List.getD, List.getElem?_eq_getElem hk']
  rw [e2]
  exact hc.rng _ (idx_lt.2 (h.has _ (mem_getD hk')))
end Go.Proofs.YtchmlfjjgehbkaaGreat

namespace Go.Proofs.YtchmlfjjgehbkaaGreat
open Go.RowKit

theorem u64_lit (x : Int) (h0 : 0 ≤ x) (h1 : x < 18446744073709551616) : IntKind.u64.wrap x = x := by
  simp only [IntKind.wrap, IntKind.signed, IntKind.bits]
  simp
  omega
/-- The bit number 64 * q + r of a row of words. -/
theorem wbit_at (ws : List Int) (q r : Nat) (hr : r < 64) : wbit ws (64 * q + r) = ((ws.getD q 0).toNat).testBit r := by
  unfold wbit
  rw [show (64 * q + r) / 64 = q by omega, show (64 * q + r) % 64 = r by omega]
theorem andNot64 (a b : Nat) (ha : a < 18446744073709551616) (hb : b < 18446744073709551616) : ∃ m : Nat, bits .andNot .u64 (a : Int) (b : Int) = (m : Int) ∧ m < 18446744073709551616 ∧ ∀ j, m.testBit j = (a.testBit j && !b.testBit j) := by
  have h1 : (BitVec.ofInt 64 (a : Int)).toNat = a := by
    rw [BitVec.ofInt_natCast, BitVec.toNat_ofNat]; exact Nat.mod_eq_of_lt (by omega)
  have h2 : (BitVec.ofInt 64 (b : Int)).toNat = b := by
    rw [BitVec.ofInt_natCast, BitVec.toNat_ofNat]; exact Nat.mod_eq_of_lt (by omega)
  refine ⟨(BitVec.ofInt 64 (a : Int) &&& ~~~ BitVec.ofInt 64 (b : Int)).toNat, ?_, (BitVec.isLt _), fun j => ?_⟩
  · show IntKind.u64.wrap ((BitVec.ofInt 64 (a : Int) &&& ~~~ BitVec.ofInt 64 (b : Int)).toNat : Int) = _
    exact u64_lit _ (Int.natCast_nonneg _) (by have := BitVec.isLt (BitVec.ofInt 64 (a : Int) &&& ~~~ BitVec.ofInt 64 (b : Int)); omega)
  · rw [BitVec.toNat_and, Nat.testBit_and, h1]
    by_cases hj : j < 64
    · have : (~~~ BitVec.ofInt 64 (b : Int)).toNat.testBit j = !(b.testBit j) := by
        show (~~~ BitVec.ofInt 64 (b : Int)).getLsbD j = _
        rw [BitVec.getLsbD_not]
        simp only [hj, decide_true, Bool.true_and]
        show (!((BitVec.ofInt 64 (b : Int)).toNat.testBit j)) = _
        rw [h2]
      rw [this]
    · have : a.testBit j = false := Nat.testBit_lt_two_pow (Nat.lt_of_lt_of_le ha (Nat.pow_le_pow_right (by decide) (by omega) : 2 ^ 64 ≤ 2 ^ j))
      rw [this]
      simp
theorem bit_high {a j : Nat} (ha : a < 18446744073709551616) (hj : 64 ≤ j) : a.testBit j = false := Nat.testBit_lt_two_pow (Nat.lt_of_lt_of_le ha (Nat.pow_le_pow_right (by decide) hj : 2 ^ 64 ≤ 2 ^ j))
/-- How many numbers below n the word number q has: one at least. -/
def inWord (n q : Nat) : Nat := min (n - 64 * q) 64
theorem whole_bit (c j : Nat) : (2 ^ c - 1).testBit j = decide (j < c) := Nat.testBit_two_pow_sub_one ..
theorem whole_lt {c : Nat} (h : c ≤ 64) : 2 ^ c - 1 < 18446744073709551616 := by
  have : 2 ^ c ≤ 2 ^ 64 := Nat.pow_le_pow_right (by decide) h
  have := Nat.two_pow_pos c
  omega
/-- A shift and 1 less, as the machine reckons them: of 64 places all are set. -/
theorem whole_shl {c : Nat} (h : c ≤ 64) : IntKind.u64.wrap (IntKind.u64.wrap (1 * 2 ^ (min c 64)) - 1) = ((2 ^ c - 1 : Nat) : Int) := by
  rw [Nat.min_eq_left h]
  have hp : 2 ^ c ≤ 2 ^ 64 := Nat.pow_le_pow_right (by decide) h
  have h0 := Nat.two_pow_pos c
  have e1 : (1 * 2 ^ c : Int) = ((2 ^ c : Nat) : Int) := by simp
  rw [e1, show ((2 ^ c - 1 : Nat) : Int) = ((2 ^ c : Nat) : Int) - 1 by omega]
  generalize 2 ^ c = p at *
  simp only [IntKind.wrap, IntKind.signed, IntKind.bits]
  simp
  omega
/-- No bit above the bound in the last word. -/
theorem RightS.of_last {n : Nat} {ws : List Int} (hn : n ≤ 65536) (hl : ws.length = (n + 63) / 64) (h : ∀ q, ws.length = q + 1 → ∀ j, j < 64 → inWord n q ≤ j → ((ws.getD q 0).toNat).testBit j = false) : RightS (n : Int) ws := by
  refine ⟨by omega, by omega, by rw [hl]; omega, fun i h1 h2 => ?_⟩
  obtain ⟨q, hq⟩ : ∃ q, ws.length = q + 1 := ⟨ws.length - 1, by omega⟩
  have hq2 : i / 64 = q := by omega
  have := h q hq (i % 64) (by omega) (by unfold inWord; omega)
  unfold wbit
  rw [hq2]
  exact this
theorem RightS.last {n : Nat} {ws : List Int} (h : RightS (n : Int) ws) {q : Nat} (hq : ws.length = q + 1) {j : Nat} (hj : j < 64) (hi : inWord n q ≤ j) : ((ws.getD q 0).toNat).testBit j = false := by
  have hl := h.len
  have := h.top (64 * q + j) (by unfold inWord at hi; omega) (by omega)
  rw [wbit_at _ _ _ hj] at this
  exact this
/-- The word that has all its numbers below n. -/
theorem IsSet.whole_word (n q j : Nat) (hj : j < 64) : (2 ^ inWord n q - 1).testBit j = decide (64 * q + j < n) := by
  rw [whole_bit]
  unfold inWord
  congr 1
  rw [eq_iff_iff]
  omega
/-- A set word by word. -/
theorem IsSet.of_words {n : Nat} {f : Nat → Bool} {ws : List Int} (hl : ws.length = (n + 63) / 64) (hd : Digs 18446744073709551616 ws) (h : ∀ q, q < ws.length → ∀ j, j < 64 → ((ws.getD q 0).toNat).testBit j = (decide (64 * q + j < n) && f (64 * q + j))) : IsSet n f ws := ⟨hl, hd, fun i hi => by
  have := h (i / 64) (by omega) (i % 64) (by omega)
  rw [show 64 * (i / 64) + i % 64 = i by omega] at this
  exact this⟩
theorem IsSet.word {n : Nat} {f : Nat → Bool} {ws : List Int} (h : IsSet n f ws) {q : Nat} (hq : q < ws.length) {j : Nat} (hj : j < 64) : ((ws.getD q 0).toNat).testBit j = (decide (64 * q + j < n) && f (64 * q + j)) := by
  have := h.bits (64 * q + j) (by omega)
  rwa [wbit_at _ _ _ hj] at this
/-- One word of a row. -/
theorem digs_getD {ws : List Int} (hd : Digs 18446744073709551616 ws) (q : Nat) : 0 ≤ ws.getD q 0 ∧ ws.getD q 0 < 18446744073709551616 := by
  by_cases h : q < ws.length
  · have := hd ws[q] (List.getElem_mem h)
    simpa [List.getD, h] using this
  · have e : ws.getD q 0 = 0 := by simp [List.getD, h]
    rw [e]; omega
theorem digs_set {ws : List Int} (hd : Digs 18446744073709551616 ws) (q : Nat) {x : Nat} (hx : x < 18446744073709551616) : Digs 18446744073709551616 (ws.set q (x : Int)) := fun y hy => by
  rcases List.mem_or_eq_of_mem_set hy with e | e
  · exact hd y e
  · rw [e]; omega
/-- A number more, by 'or': whether it was there or not. -/
theorem IsSet.or_one {n : Nat} {f : Nat → Bool} {ws : List Int} (h : IsSet n f ws) {x : Nat} (hx : x < n) : IsSet n (fun i => f i || decide (i = x)) (ws.set (x / 64) (((ws.getD (x / 64) 0).toNat ||| 2 ^ (x % 64) : Nat) : Int)) := by
  have hl := h.len
  have hq : x / 64 < ws.length := by omega
  have hd := digs_getD h.dig (x / 64)
  have hp : 2 ^ (x % 64) < 2 ^ 64 := Nat.pow_lt_pow_right (by decide) (by omega)
  refine IsSet.of_words (by simp [hl]) (digs_set h.dig _ (Nat.or_lt_two_pow (n := 64) (by omega) hp)) (fun q hq2 j hj => ?_)
  rw [List.length_set] at hq2
  rw [getD_set hq]
  by_cases c : q = x / 64
  · rw [if_pos c, Int.toNat_natCast, Nat.testBit_or, Nat.testBit_two_pow, c, h.word hq hj]
    by_cases e : x % 64 = j
    · have e2 : 64 * (x / 64) + j = x := by omega
      have e3 : decide (x % 64 = j) = true := decide_eq_true e
      rw [e3, e2]
      simp [hx]
    · have e2 : ¬ 64 * (x / 64) + j = x := by omega
      simp [e, e2]
  · rw [if_neg c, h.word hq2 hj]
    have e2 : ¬ 64 * q + j = x := by omega
    simp [e2]
/-- Numbers of a set between two bounds, of which none is there. -/
theorem numsOfS_skip {f : Nat → Bool} {a b : Nat} (hab : a ≤ b) (h : ∀ i, a ≤ i → i < b → f i = false) : numsOfS b f = numsOfS a f := by
  induction b with
  | zero => rw [show a = 0 by omega]
  | succ b ih =>
    by_cases e : a = b + 1
    · rw [e]
    · rw [numsOfS_next, h b (by omega) (by omega), if_neg (by decide)]
      exact ih (by omega) (fun i h1 h2 => h i h1 (by omega))
theorem numsOfS_more (f : Nat → Bool) (a b : Nat) : (numsOfS (a + b) f).length = (numsOfS a f).length + (numsOfS b (fun j => f (a + j))).length := by
  induction b with
  | zero => rfl
  | succ b ih =>
    rw [← Nat.add_assoc, numsOfS_next, numsOfS_next]
    split
    · rw [List.length_append, List.length_append, ih]; simp; omega
    · exact ih
/-- The lowest bit of a word taken away. -/
theorem low_off {d s : Nat} (hd : d % 2 = 1) (j : Nat) : ((d * 2 ^ s) &&& (d * 2 ^ s - 1)).testBit j = ((d * 2 ^ s).testBit j && decide (j ≠ s)) := by
  have hp := Nat.two_pow_pos s
  have e1 : d * 2 ^ s - 1 = 2 ^ s * (d - 1) + (2 ^ s - 1) := by
    obtain ⟨k, rfl⟩ : ∃ k, d = k + 1 := ⟨d - 1, by omega⟩
    rw [Nat.add_mul, Nat.one_mul, Nat.add_sub_cancel, Nat.mul_comm k]
    omega
  rw [Nat.mul_comm d] at e1
  rw [Nat.testBit_and, Nat.mul_comm d, e1]
  by_cases c : j < s
  · have : (2 ^ s * d).testBit j = false := by rw [Nat.testBit_two_pow_mul]; simp; omega
    rw [this]; simp
  · rw [Nat.testBit_two_pow_mul_add _ (by omega) j, if_neg c, Nat.testBit_two_pow_mul]
    have hge : j ≥ s := by omega
    simp only [hge, decide_true, Bool.true_and]
    obtain ⟨k, hk⟩ : ∃ k, d = 2 * k + 1 := ⟨d / 2, by omega⟩
    subst hk
    by_cases e : j = s
    · subst e; simp
    · obtain ⟨m, hm⟩ : ∃ m, j - s = m + 1 := ⟨j - s - 1, by omega⟩
      rw [hm, show 2 * k + 1 - 1 = 2 * k by omega, Nat.testBit_succ, Nat.testBit_succ, show (2 * k + 1) / 2 = k by omega, show 2 * k / 2 = k by omega]
      simp [e]
theorem low_on {d s : Nat} (hd : d % 2 = 1) : (d * 2 ^ s).testBit s = true ∧ ∀ j, j < s → (d * 2 ^ s).testBit j = false := by
  rw [Nat.mul_comm]
  refine ⟨?_, fun j hj => ?_⟩
  · rw [Nat.testBit_two_pow_mul]; simp [hd]
  · rw [Nat.testBit_two_pow_mul]; simp; omega
end Go.Proofs.YtchmlfjjgehbkaaGreat

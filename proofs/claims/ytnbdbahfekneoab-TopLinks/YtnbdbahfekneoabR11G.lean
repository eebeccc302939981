/-
  The document's end of a link: the contract of find; what is held.
  The document's end of a link: held messages are laid in and taken out (memory).
  The document's end of a link: a row of its own is another one; what is due is drained.
  The document's end of a link: what In carries along.
  What stage 11's laws ask of an end of a link; the document's end is one.
-/
import Derived.Test.YtnbdbahfekneoabRef11F
namespace Go.Proofs.Ytnbdbahfekneoab
open Go.RowKit

/-- Where a number is held first; -1: nowhere. -/
def FoundT (hs : List (Nat × List Int)) (n : Nat) (z : Int) : Prop := (∃ i, i < hs.length ∧ (hs.getD i (0, [])).1 = n ∧ (∀ j, j < i → (hs.getD j (0, [])).1 ≠ n) ∧ z = (i : Int)) ∨ ((∀ j, j < hs.length → (hs.getD j (0, [])).1 ≠ n) ∧ z = -1)

end Go.Proofs.Ytnbdbahfekneoab

namespace Go.Proofs.Ytnbdbahfekneoab
open Go.RowKit

/-- What a row of held messages says of its cells. -/
def HeldC (w : World) (vs : List Value) (hs : List (Nat × List Int)) : Prop := ∀ i, i < hs.length → ∃ p n c, vs[i * 2]? = some (.int .i64 ((hs.getD i (0, [])).1 : Int)) ∧ vs[i * 2 + 1]? = some (.slice p n c) ∧ BytG w p n c (hs.getD i (0, [])).2
theorem HeldC.only {C : Nat → Prop} {w w' : World} {vs : List Value} {hs : List (Nat × List Int)} (h : HeldC w vs hs) (k : Only C w w') (hC : ∀ b, C b → ¬ IsB w b) : HeldC w' vs hs := fun i hi => by
  obtain ⟨p, n, c, e, e2, hb⟩ := h i hi
  exact ⟨p, n, c, e, e2, hb.only k hC⟩
theorem HeldC.append {w : World} {vs us : List Value} {hs ks : List (Nat × List Int)} (h : HeldC w vs hs) (k : HeldC w us ks) (hl : vs.length = hs.length * 2) : HeldC w (vs ++ us) (hs ++ ks) := fun i hi => by
  by_cases q : i < hs.length
  · obtain ⟨p, n, c, e, e2, hb⟩ := h i q
    refine ⟨p, n, c, ?_, ?_, ?_⟩
    · rw [List.getElem?_append_left (by omega), e]
      unfold List.getD
      rw [List.getElem?_append_left q]
    · rw [List.getElem?_append_left (by omega), e2]
    · rw [show (hs ++ ks).getD i (0, []) = hs.getD i (0, []) by unfold List.getD; rw [List.getElem?_append_left q]]
      exact hb
  · obtain ⟨p, n, c, e, e2, hb⟩ := k (i - hs.length) (by simp at hi; omega)
    have hg : (hs ++ ks).getD i (0, []) = ks.getD (i - hs.length) (0, []) := by unfold List.getD; rw [List.getElem?_append_right (by omega)]
    refine ⟨p, n, c, ?_, ?_, ?_⟩
    · rw [List.getElem?_append_right (by omega), hl, show i * 2 - hs.length * 2 = (i - hs.length) * 2 by omega, e, hg]
    · rw [List.getElem?_append_right (by omega), hl, show i * 2 + 1 - hs.length * 2 = (i - hs.length) * 2 + 1 by omega, e2]
    · rw [hg]
      exact hb
theorem HeldC.take {w : World} {vs : List Value} {hs : List (Nat × List Int)} (h : HeldC w vs hs) (k : Nat) (hk : k ≤ hs.length) : HeldC w (vs.take (k * 2)) (hs.take k) := fun i hi => by
  have hi' : i < k := by simp at hi; omega
  obtain ⟨p, n, c, e, e2, hb⟩ := h i (by omega)
  have hg : (hs.take k).getD i (0, []) = hs.getD i (0, []) := by unfold List.getD; rw [List.getElem?_take, if_pos hi']
  exact ⟨p, n, c, by rw [List.getElem?_take, if_pos (by omega), e, hg], by rw [List.getElem?_take, if_pos (by omega), e2], by rw [hg]; exact hb⟩
theorem HeldC.drop {w : World} {vs : List Value} {hs : List (Nat × List Int)} (h : HeldC w vs hs) (k : Nat) : HeldC w (vs.drop (k * 2)) (hs.drop k) := fun i hi => by
  obtain ⟨p, n, c, e, e2, hb⟩ := h (k + i) (by simp at hi; omega)
  have hg : (hs.drop k).getD i (0, []) = hs.getD (k + i) (0, []) := by unfold List.getD; rw [List.getElem?_drop]
  exact ⟨p, n, c, by rw [List.getElem?_drop, show k * 2 + i * 2 = (k + i) * 2 by omega, e, hg], by rw [List.getElem?_drop, show k * 2 + (i * 2 + 1) = (k + i) * 2 + 1 by omega, e2], by rw [hg]; exact hb⟩

/-- What is held of a row, one more, one less. -/
theorem heldAt_none {hs : List (Nat × List Int)} {n : Nat} (h : ∀ j, j < hs.length → (hs.getD j (0, [])).1 ≠ n) : heldAt hs n = none := by
  unfold heldAt
  rw [Option.map_eq_none_iff, List.find?_eq_none]
  intro e he
  obtain ⟨j, hj, rfl⟩ := List.mem_iff_getElem.1 he
  have := h j hj
  simp [List.getD, hj] at this
  simpa using this
theorem heldAt_some {hs : List (Nat × List Int)} {n i : Nat} (hi : i < hs.length) (h1 : (hs.getD i (0, [])).1 = n) (h2 : ∀ j, j < i → (hs.getD j (0, [])).1 ≠ n) : heldAt hs n = some (hs.getD i (0, [])).2 := by
  unfold heldAt
  have : hs.find? (fun e => e.1 == n) = some (hs.getD i (0, [])) := by
    rw [List.find?_eq_some_iff_getElem]
    refine ⟨by simpa using h1, i, hi, by simp [List.getD, hi], fun j hj => ?_⟩
    have := h2 j hj
    simp [List.getD, show j < hs.length by omega] at this
    simpa using this
  rw [this]
  rfl
theorem heldAt_snoc {hs : List (Nat × List Int)} {n m : Nat} {b : List Int} (h : heldAt hs n = none) : heldAt (hs ++ [(n, b)]) m = if m = n then some b else heldAt hs m := by
  unfold heldAt at h ⊢
  rw [List.find?_append]
  by_cases c : m = n
  · subst c
    rw [Option.map_eq_none_iff] at h
    rw [h, if_pos rfl]
    simp
  · rw [if_neg c]
    have : List.find? (fun e : Nat × List Int => e.1 == m) [(n, b)] = none := by simp [Ne.symm c]
    rw [this]
    simp
end Go.Proofs.Ytnbdbahfekneoab

namespace Go.Proofs.Ytnbdbahfekneoab
open Go.RowKit

theorem part_at {hs : List (Nat × List Int)} {i : Nat} (hi : i < hs.length) : hs = hs.take i ++ hs.getD i (0, []) :: hs.drop (i + 1) := by
  rw [show hs.getD i (0, []) = hs[i] by simp [List.getD, hi]]
  simp
theorem keys_less {hs : List (Nat × List Int)} {i : Nat} (hi : i < hs.length) (hk : (hs.map Prod.fst).Nodup) : ((hs.take i ++ hs.drop (i + 1)).map Prod.fst).Nodup ∧ (hs.getD i (0, [])).1 ∉ (hs.take i ++ hs.drop (i + 1)).map Prod.fst := by
  have h := part_at hi
  rw [h, List.map_append, List.map_cons] at hk
  have hp := (List.perm_middle (a := (hs.getD i (0, [])).1) (l₁ := (hs.take i).map Prod.fst) (l₂ := (hs.drop (i + 1)).map Prod.fst)).nodup_iff.1 hk
  rw [List.nodup_cons] at hp
  rw [List.map_append]
  exact ⟨hp.2, hp.1⟩
theorem heldAt_less {hs : List (Nat × List Int)} {i m : Nat} (hi : i < hs.length) (hk : (hs.map Prod.fst).Nodup) : heldAt (hs.take i ++ hs.drop (i + 1)) m = if m = (hs.getD i (0, [])).1 then none else heldAt hs m := by
  obtain ⟨-, h2⟩ := keys_less hi hk
  by_cases c : m = (hs.getD i (0, [])).1
  · rw [if_pos c]
    subst c
    unfold heldAt
    rw [Option.map_eq_none_iff, List.find?_eq_none]
    intro e he hc
    have : e.1 = (hs.getD i (0, [])).1 := by simpa using hc
    exact h2 (List.mem_map.2 ⟨e, he, this⟩)
  · rw [if_neg c]
    have h := part_at hi
    unfold heldAt
    have h3 : hs.find? (fun e => e.1 == m) = (hs.take i ++ hs.getD i (0, []) :: hs.drop (i + 1)).find? (fun e => e.1 == m) := congrArg _ h
    rw [h3, List.find?_append, List.find?_append, List.find?_cons_of_neg (by simpa using Ne.symm c)]

end Go.Proofs.Ytnbdbahfekneoab

namespace Go.Proofs.Ytnbdbahfekneoab
open Go.RowKit

/-- What a call that takes a frame's bytes makes. -/
def InT11 (At : World → Nat → LS → (Nat → Prop) → Prop) (w : World) (g : Nat) (st : LS) (T : Nat → Prop) (bs : List Int) (e : Ending) (w' : World) : Prop :=
  ((∀ f, ¬ IsFr f bs) ∧ e = .returned (.int .i64 14) ∧ EndT11 At w g st T w') ∨ (∃ f, IsFr f bs ∧ e = .returned (.int .i64 (st.inE f)) ∧ EndT11 At w g (st.inF f) T w')

/-- Numbers that are all told apart, of so many: they are no more. -/
theorem few_keys : ∀ (k a : Nat) (l : List Nat), l.Nodup → (∀ x, x ∈ l → a ≤ x ∧ x < a + k) → l.length ≤ k
  | 0, a, l, _, h => by
    cases l with
    | nil => exact Nat.le_refl _
    | cons x l => have := h x (List.mem_cons_self ..); omega
  | k + 1, a, l, hn, h => by
    by_cases hx : (a + k) ∈ l
    · have h1 := few_keys k a (l.erase (a + k)) (hn.erase _) (fun x hm => by
        rw [hn.mem_erase_iff] at hm
        have := h x hm.2
        have := hm.1
        omega)
      rw [List.length_erase_of_mem hx] at h1
      omega
    · have h1 := few_keys k a l hn (fun x hm => by
        have := h x hm
        have : x ≠ a + k := fun e => hx (e ▸ hm)
        omega)
      omega
theorem heldAt_mem {hs : List (Nat × List Int)} {e : Nat × List Int} (he : e ∈ hs) : heldAt hs e.1 ≠ none := by
  unfold heldAt
  intro h
  rw [Option.map_eq_none_iff, List.find?_eq_none] at h
  exact h e he (by simp)
/-- What is held are at most 16. -/
theorem few_held {st : LS} {hs : List (Nat × List Int)} (hf : st.Fine) (hh : ∀ n, st.hold n = heldAt hs n) (hk : (hs.map Prod.fst).Nodup) : hs.length ≤ 16 := by
  have := few_keys 16 st.all.length (hs.map Prod.fst) hk (fun x hx => by
    obtain ⟨e, he, rfl⟩ := List.mem_map.1 hx
    cases q : heldAt hs e.1 with
    | none => exact absurd q (heldAt_mem he)
    | some b => exact hf.hold e.1 b ((hh _).trans q))
  simpa using this

/-- A frame's variable, read alone. -/
structure FrV (w : World) (g : Nat) (d : Bool) (s a : Int) (p : Option Addr) (l c : Nat) : Prop where
  c0 : w.cell? ⟨g, 0, none⟩ = some (.bool d)
  c1 : w.cell? ⟨g, 1, none⟩ = some (.int .i64 s)
  c2 : w.cell? ⟨g, 2, none⟩ = some (.int .i64 a)
  c3 : w.cell? ⟨g, 3, none⟩ = some (.slice p l c)
theorem FrV.only {C : Nat → Prop} {w w' : World} {g : Nat} {d : Bool} {s a : Int} {p : Option Addr} {l c : Nat} (h : FrV w g d s a p l c) (k : Only C w w') (hn : ¬ C g) : FrV w' g d s a p l c :=
  ⟨k.cell h.c0 hn, k.cell h.c1 hn, k.cell h.c2 hn, k.cell h.c3 hn⟩

theorem FoundT.unique {hs : List (Nat × List Int)} {n : Nat} {z z' : Int} (h : FoundT hs n z) (h' : FoundT hs n z') : z = z' := by
  rcases h with ⟨i, hi, h1, h2, rfl⟩ | ⟨h1, rfl⟩ <;> rcases h' with ⟨i', hi', h1', h2', rfl⟩ | ⟨h1', rfl⟩
  · rcases Nat.lt_trichotomy i i' with c | c | c
    · exact absurd h1 (h2' i c)
    · rw [c]
    · exact absurd h1' (h2 i' c)
  · exact absurd h1 (h1' i hi)
  · exact absurd h1' (h1 i' hi')
  · rfl
theorem found_ex (hs : List (Nat × List Int)) (n : Nat) : ∃ z, FoundT hs n z := by
  by_cases h : ∃ i, i < hs.length ∧ (hs.getD i (0, [])).1 = n
  · have : ∀ m i, i < m → i < hs.length → (hs.getD i (0, [])).1 = n → ∃ j, j < hs.length ∧ (hs.getD j (0, [])).1 = n ∧ ∀ q, q < j → (hs.getD q (0, [])).1 ≠ n := by
      intro m
      induction m with
      | zero => intro i hi; omega
      | succ m ih =>
        intro i hi h1 h2
        by_cases c : ∃ q, q < i ∧ (hs.getD q (0, [])).1 = n
        · obtain ⟨q, hq, h3⟩ := c
          exact ih q (by omega) (by omega) h3
        · exact ⟨i, h1, h2, fun q hq h3 => c ⟨q, hq, h3⟩⟩
    obtain ⟨i, h1, h2⟩ := h
    obtain ⟨j, k1, k2, k3⟩ := this (i + 1) i (by omega) h1 h2
    exact ⟨_, .inl ⟨j, k1, k2, k3, rfl⟩⟩
  · exact ⟨-1, .inr ⟨fun j hj e => h ⟨j, hj, e⟩, rfl⟩⟩
/-- It is held just if it is found. -/
theorem FoundT.held {hs : List (Nat × List Int)} {n : Nat} {z : Int} (h : FoundT hs n z) : decide (z < 0) = (heldAt hs n).isNone := by
  rcases h with ⟨i, hi, h1, h2, rfl⟩ | ⟨h1, rfl⟩
  · rw [heldAt_some hi h1 h2]
    exact decide_eq_false (by omega)
  · rw [heldAt_none h1]
    rfl
/-- Is a message kept? -/
def keepB (st : LS) (n : Nat) : Bool := decide (st.all.length ≤ n) && (decide (n < st.all.length + 16) && (st.hold n).isNone)
theorem LS.keep_true {st : LS} {n : Nat} {b : List Int} (h : keepB st n = true) : st.keep n b = { st with hold := fun m => if m = n then some b else st.hold m } := by
  unfold keepB at h
  simp at h
  unfold LS.keep
  rw [if_pos h]
theorem LS.keep_false {st : LS} {n : Nat} {b : List Int} (h : keepB st n = false) : st.keep n b = st := by
  unfold LS.keep
  rw [if_neg]
  rintro ⟨h1, h2, h3⟩
  unfold keepB at h
  simp [h1, h2, h3] at h
/-- The rest of the draining: k more at most, to come to Y. -/
structure Drains (st : LS) (k : Nat) (Y : LS) : Prop where
  eq : LS.drain k st = Y
  hold : ∀ n b, st.hold n = some b → st.all.length ≤ n ∧ n < st.all.length + k
theorem Drains.stop {st Y : LS} {k : Nat} (h : Drains st k Y) (hn : st.hold st.all.length = none) : st = Y := by
  rw [← h.eq]
  cases k with
  | zero => rfl
  | succ k =>
    unfold LS.drain
    rw [hn]
theorem Drains.next {st Y : LS} {k : Nat} {b : List Int} (h : Drains st k Y) (hn : st.hold st.all.length = some b) : ∃ j, k = j + 1 ∧ Drains { st with all := st.all ++ [b], hold := fun n => if n = st.all.length then none else st.hold n } j Y := by
  cases k with
  | zero => have := h.hold _ _ hn; omega
  | succ k =>
    refine ⟨k, rfl, ?_, fun n c hc => ?_⟩
    · rw [← h.eq]
      conv => rhs; unfold LS.drain
      rw [hn]
    · simp only at hc
      split at hc
      · cases hc
      · have := h.hold n c hc
        simp
        omega
theorem Drains.start {st : LS} (hF : st.Fine) (n : Nat) (b : List Int) : Drains (st.keep n b) 16 (LS.drain 16 (st.keep n b)) := by
  refine ⟨rfl, fun m c hc => ?_⟩
  rw [(LS.keep_same st n b).2.2.2.2.2.2.2]
  unfold LS.keep at hc
  split at hc
  · rename_i q
    simp only at hc
    split at hc
    · omega
    · exact hF.hold m c hc
  · exact hF.hold m c hc
theorem grown_undraw {w w' : World} {row : Option Nat} (h : w.drew.grownBy w' row) : w.grownBy w' row := ⟨h.os, h.tape, h.output, h.size, h.block⟩
theorem held_cells (w : World) (x y : Value) (t : TypeId) (j : Nat) (u : Value) (hj : [x, y][j]? = some u) : (w.alloc (.cells #[x, y] t)).cell? ((⟨w.heap.size, 0, none⟩ : Addr).add j) = some u := by
  rw [Addr.add_lit]
  match j, hj with
  | 0, hj => simp at hj; subst hj; simp
  | 1, hj => simp at hj; subst hj; simp
def sliceLen (v : Value) : Nat := match v with | .slice _ n _ => n | _ => 0
theorem HeldC.one {w : World} {vs : List Value} {hs : List (Nat × List Int)} (h : HeldC w vs hs) (hl : vs.length = hs.length * 2) : ∀ u, u ∈ vs → u.oneCell' = true := fun u hu => by
  obtain ⟨j, hj, rfl⟩ := List.mem_iff_getElem.1 hu
  obtain ⟨p, n, c, e1, e2, -⟩ := h (j / 2) (by omega)
  rcases Nat.mod_two_eq_zero_or_one j with q | q
  · rw [show j / 2 * 2 = j by omega, List.getElem?_eq_getElem hj] at e1
    rw [Option.some.inj e1]
    rfl
  · rw [show j / 2 * 2 + 1 = j by omega, List.getElem?_eq_getElem hj] at e2
    rw [Option.some.inj e2]
    rfl
theorem take_some {vs : List Value} {k j : Nat} {u : Value} (h : (vs.take k)[j]? = some u) : vs[j]? = some u := by
  rw [List.getElem?_take] at h
  split at h
  · exact h
  · cases h
theorem drop_cell {wx : World} {gq k : Nat} {vs : List Value} (h : ∀ j u, vs[j]? = some u → wx.cell? ((⟨gq, 0, none⟩ : Addr).add j) = some u) (j : Nat) (u : Value) (hj : (vs.drop k)[j]? = some u) : wx.cell? ((⟨gq, k, none⟩ : Addr).add j) = some u := by
  rw [List.getElem?_drop] at hj
  have := h _ u hj
  rw [Addr.add_lit] at this ⊢
  simpa using this
theorem row_then {w w4 w5 : World} {v : Value} (hb : Below w.heap.size w w4) (hg : w4.grownBy w5 v.ownBlock) (hn : ∀ b, v.ownBlock = some b → w.heap.size ≤ b) : Below w.heap.size w w5 := hb.grown hg hb.size hn
theorem row_newest {w w4 : World} {v v' : Value} (hb : Below w.heap.size w w4) (hn : ∀ b, v.ownBlock = some b → w.heap.size ≤ b) (hv : v'.ownBlock = v.ownBlock ∨ v'.ownBlock = some w4.heap.size) : ∀ b, v'.ownBlock = some b → w.heap.size ≤ b := fun b e => by
  rcases hv with k | k
  · exact hn b (k.symm.trans e)
  · have := Option.some.inj (k.symm.trans e)
    have := hb.size
    omega
end Go.Proofs.Ytnbdbahfekneoab

namespace Go.Proofs.Ytnbdbahfekneoab
open Go.RowKit

/-- At tells where an end lies, what it knows, and which blocks it may turn. -/
structure EndKept11 (At : World → Nat → LS → (Nat → Prop) → Prop) : Prop where
  foot : ∀ {w : World} {g : Nat} {st : LS} {T : Nat → Prop}, At w g st T → st.Fine ∧ (∀ b, T b → b < w.heap.size) ∧ ∀ b, T b → ¬ IsB w b
  other : ∀ {w w' : World} {g : Nat} {st : LS} {T C : Nat → Prop}, At w g st T → Only C w w' → (∀ b, C b → ¬ T b) → (∀ b, C b → ¬ IsB w b) → At w' g st T
/-- The program's end, as it is used. -/
structure EndUse11 (At : World → Nat → LS → (Nat → Prop) → Prop) : Prop extends EndKept11 At where
  new : ∀ (n : Int) (w : World), -9223372036854775808 ≤ n ∧ n < 9223372036854775808 → Calls Try.prog 4 #[.int .i64 n] w fun e w' => NewT11 At n w e w'
  send : ∀ (g : Nat) (st : LS) (T : Nat → Prop) (a : Option Addr) (la ca : Nat) (body : List Int) (w : World), At w g st T → Byts w a la ca body → (a = none → ca = 0) → la ≤ 140737488355300 → Calls Try.prog 6 #[.pointer (some ⟨g, 0, none⟩), .slice a la ca] w fun e w' => e = .returned (.int .i64 (st.sendE body)) ∧ EndT11 At w g (st.send body) T w'
  tick : ∀ (g : Nat) (st : LS) (T : Nat → Prop) (w : World), At w g st T → Calls Try.prog 7 #[.pointer (some ⟨g, 0, none⟩)] w fun e w' => e = .returned (.tuple #[]) ∧ EndT11 At w g st.ticked T w'
  out : ∀ (g : Nat) (st : LS) (T : Nat → Prop) (w : World), At w g st T → Calls Try.prog 8 #[.pointer (some ⟨g, 0, none⟩)] w fun e w' => OutT11 At w g st T e w'
  inn : ∀ (g : Nat) (st : LS) (T : Nat → Prop) (a : Option Addr) (la ca : Nat) (bs : List Int) (w : World), At w g st T → Byts w a la ca bs → (a = none → ca = 0) → la ≤ 140737488355300 → st.all.length + 16 ≤ 1073741824 → Calls Try.prog 9 #[.pointer (some ⟨g, 0, none⟩), .slice a la ca] w fun e w' => InT11 At w g st T bs e w'
  next : ∀ (g : Nat) (st : LS) (T : Nat → Prop) (w : World), At w g st T → Calls Try.prog 10 #[.pointer (some ⟨g, 0, none⟩)] w fun e w' => NextT11 At w g st T e w'
theorem EndKept11.below {At : World → Nat → LS → (Nat → Prop) → Prop} (A : EndKept11 At) {w w' : World} {g : Nat} {st : LS} {T : Nat → Prop} (h : At w g st T) (hb : Below w.heap.size w w') : At w' g st T := A.other h (Only.of_below (T := fun _ => False) hb) (fun _ e => e.elim) (fun _ e => e.elim)
/-- What one end turns leaves the other one as it is. -/
theorem EndKept11.beside {At Bt : World → Nat → LS → (Nat → Prop) → Prop} (A : EndKept11 At) (B : EndKept11 Bt) {w w' : World} {g k : Nat} {st sx sy : LS} {T S T' : Nat → Prop} (hx : At w g sx T) (hy : Bt w k sy S) (hd : ∀ b, T b → ¬ S b) (hE : At w' g st T' ∧ Only T w w' ∧ ∀ b, T' b → T b ∨ w.heap.size ≤ b) : Bt w' k sy S ∧ ∀ b, T' b → ¬ S b := by
  refine ⟨B.other hy hE.2.1 (fun b e q => hd b e q) (A.foot hx).2.2, fun b e q => ?_⟩
  rcases hE.2.2 b e with c | c
  · exact hd b c q
  · have := (B.foot hy).2.1 b q
    omega
end Go.Proofs.Ytnbdbahfekneoab

/-
  A session, by definition: whom a party waits for, and how it ends.
-/
import Derived.Test.YtbfjcfebbadkcaaW12A
namespace Go.Proofs.Ytbfjcfebbadkcaa
open Go.RowKit

/-- What a session knows. Phases: 0 working, 1 done, 2 aborted. -/
structure SS where
  self : Nat
  parties : Nat
  patience : Nat
  now : Nat
  phase : Nat
  why : Nat
  waits : Nat → Option (Nat × List Int)
def SS.new (a b c : Nat) : SS := ⟨a, b, c, 0, 0, 0, fun _ => none⟩
def newOk (self parties patience : Int) : Bool := decide (2 ≤ parties) && (decide (parties ≤ 16) && (decide (0 ≤ self) && (decide (self < parties) && (decide (1 ≤ patience) && decide (patience ≤ 1073741824)))))
theorem newOk_iff (a b c : Int) : newOk a b c = true ↔ 2 ≤ b ∧ b ≤ 16 ∧ 0 ≤ a ∧ a < b ∧ 1 ≤ c ∧ c ≤ 1073741824 := by
  unfold newOk
  simp
def SS.isPeer (s : SS) (p : Int) : Bool := decide (0 ≤ p) && (decide (p < s.parties) && (decide (p ≠ s.self) && (decide (s.self = 0) || decide (p = 0))))
def kindsOk (ks : List Int) : Bool := ks.all fun k => decide (1 ≤ k) && decide (k ≤ 11)
def SS.waitsFor (s : SS) (p : Int) : Bool := (s.waits p.toNat).isSome
def SS.awaitE (s : SS) (p : Int) (ks : List Int) : Int := if s.phase ≠ 0 then 17 else if s.isPeer p = false then 1 else if ks.length = 0 then 1 else if kindsOk ks = false then 1 else if s.waitsFor p = true then 18 else 0
def SS.put (s : SS) (p : Nat) (x : Option (Nat × List Int)) : SS := { s with waits := fun q => if q = p then x else s.waits q }
def SS.await (s : SS) (p : Int) (ks : List Int) : SS := if s.awaitE p ks = 0 then s.put p.toNat (some (s.now, ks)) else s
/-- It is over. -/
def SS.over (s : SS) (ph why : Nat) : SS := { s with phase := ph, why := why, waits := fun _ => none }
def SS.takes (s : SS) (p k : Int) : Bool := match s.waits p.toNat with
  | none => false
  | some x => decide (k ∈ x.2)
def SS.takeE (s : SS) (p k : Int) : Int := if s.phase ≠ 0 then 17 else if s.isPeer p = false then 1 else if k = 11 then 0 else if s.takes p k = true then 0 else 18
def whyOf (a : Int) : Nat := if 1 ≤ a ∧ a ≤ 1000 then a.toNat else 18
def SS.take (s : SS) (p k a : Int) : SS := if s.phase ≠ 0 then s else if s.isPeer p = false then s else if k = 11 then s.over 2 (whyOf a) else if s.takes p k = true then s.put p.toNat none else s.over 2 18
def SS.lateAt (s : SS) (p : Nat) : Bool := match s.waits p with
  | none => false
  | some x => decide (x.1 + s.patience < s.now)
def SS.late (s : SS) : Bool := (List.range s.parties).any s.lateAt
def SS.later (s : SS) (n : Int) : SS := { s with now := s.now + n.toNat }
def SS.tickE (s : SS) (n : Int) : Int := if s.phase ≠ 0 then 17 else if n < 1 ∨ 1073741824 - (s.now : Int) < n then 1 else if (s.later n).late = true then 19 else 0
def SS.tick (s : SS) (n : Int) : SS := if s.phase ≠ 0 then s else if n < 1 ∨ 1073741824 - (s.now : Int) < n then s else if (s.later n).late = true then (s.later n).over 2 19 else s.later n
def SS.who (s : SS) : List Nat := if s.phase ≠ 0 then [] else (List.range s.parties).filter fun p => (s.waits p).isSome
def SS.finishE (s : SS) : Int := if s.phase ≠ 0 then 17 else if s.who ≠ [] then 18 else 0
def SS.finish (s : SS) : SS := if s.finishE = 0 then s.over 1 0 else s
def SS.abortE (s : SS) (y : Int) : Int := if s.phase ≠ 0 then 17 else if y < 1 ∨ 1000 < y then 1 else 0
def SS.abort (s : SS) (y : Int) : SS := if s.abortE y = 0 then s.over 2 y.toNat else s
/-- What holds of each session. -/
structure SS.Fine (s : SS) : Prop where
  par : 2 ≤ s.parties ∧ s.parties ≤ 16
  slf : s.self < s.parties
  pat : 1 ≤ s.patience ∧ s.patience ≤ 1073741824
  tim : s.now ≤ 1073741824
  pha : s.phase ≤ 2
  ywh : s.why ≤ 1000
  wai : ∀ p x, s.waits p = some x → p < s.parties ∧ x.1 ≤ s.now ∧ s.now ≤ x.1 + s.patience
theorem SS.Fine.new {a b c : Int} (h : newOk a b c = true) : (SS.new a.toNat b.toNat c.toNat).Fine := by
  obtain ⟨h1, h2, h3, h4, h5, h6⟩ := (newOk_iff a b c).1 h
  exact ⟨⟨by show 2 ≤ b.toNat; omega, by show b.toNat ≤ 16; omega⟩, by show a.toNat < b.toNat; omega, ⟨by show 1 ≤ c.toNat; omega, by show c.toNat ≤ 1073741824; omega⟩, Nat.zero_le _, Nat.zero_le _, Nat.zero_le _, fun p x e => by cases e⟩
theorem SS.isPeer_iff (s : SS) (p : Int) : s.isPeer p = true ↔ 0 ≤ p ∧ p < s.parties ∧ p ≠ s.self ∧ (s.self = 0 ∨ p = 0) := by
  unfold SS.isPeer
  simp
theorem SS.Fine.over {s : SS} (h : s.Fine) {ph y : Nat} (hp : ph ≤ 2) (hy : y ≤ 1000) : (s.over ph y).Fine := ⟨h.par, h.slf, h.pat, h.tim, hp, hy, fun p x e => by cases e⟩
theorem SS.Fine.put {s : SS} (h : s.Fine) {p : Nat} {x : Option (Nat × List Int)} (hx : ∀ y, x = some y → p < s.parties ∧ y.1 ≤ s.now ∧ s.now ≤ y.1 + s.patience) : (s.put p x).Fine := ⟨h.par, h.slf, h.pat, h.tim, h.pha, h.ywh, fun q y e => by
  unfold SS.put at e
  simp only at e
  split at e
  · rename_i c
    subst c
    exact hx y e
  · exact h.wai q y e⟩
theorem awaitE_zero {s : SS} {p : Int} {ks : List Int} (h : s.awaitE p ks = 0) : s.phase = 0 ∧ s.isPeer p = true ∧ ks.length ≠ 0 ∧ kindsOk ks = true ∧ s.waitsFor p = false := by
  unfold SS.awaitE at h
  split at h
  · cases h
  · split at h
    · cases h
    · split at h
      · cases h
      · split at h
        · cases h
        · split at h
          · cases h
          · rename_i h1 h2 h3 h4 h5
            exact ⟨by omega, by simpa using h2, h3, by simpa using h4, by simpa using h5⟩
theorem SS.Fine.await {s : SS} (h : s.Fine) (p : Int) (ks : List Int) : (s.await p ks).Fine := by
  unfold SS.await
  split
  · rename_i e
    have hp := (s.isPeer_iff p).1 (awaitE_zero e).2.1
    exact h.put (fun y e => by cases e; exact ⟨by omega, Nat.le_refl _, Nat.le_add_right _ _⟩)
  · exact h
theorem whyOf_le (a : Int) : whyOf a ≤ 1000 := by
  unfold whyOf
  split <;> omega
theorem SS.Fine.take {s : SS} (h : s.Fine) (p k a : Int) : (s.take p k a).Fine := by
  unfold SS.take
  split
  · exact h
  · split
    · exact h
    · split
      · exact h.over (by decide) (whyOf_le a)
      · split
        · exact h.put (fun y e => by cases e)
        · exact h.over (by decide) (by decide)
theorem SS.late_false {s : SS} (h : s.late = false) {p : Nat} (hp : p < s.parties) {x : Nat × List Int} (hx : s.waits p = some x) : s.now ≤ x.1 + s.patience := by
  unfold SS.late at h
  rw [List.any_eq_false] at h
  have := h p (List.mem_range.2 hp)
  unfold SS.lateAt at this
  rw [hx] at this
  simp at this
  exact this
theorem SS.Fine.tick {s : SS} (h : s.Fine) (n : Int) : (s.tick n).Fine := by
  unfold SS.tick
  split
  · exact h
  · split
    · exact h
    · rename_i hn
      have htim : s.now + n.toNat ≤ 1073741824 := by omega
      split
      · exact ⟨h.par, h.slf, h.pat, htim, by show 2 ≤ 2; omega, by show 19 ≤ 1000; omega, fun p x e => by cases e⟩
      · rename_i hl
        have hl : (s.later n).late = false := by simpa using hl
        refine ⟨h.par, h.slf, h.pat, htim, h.pha, h.ywh, fun p x e => ?_⟩
        obtain ⟨w1, w2, w3⟩ := h.wai p x e
        exact ⟨w1, Nat.le_trans w2 (Nat.le_add_right _ _), SS.late_false hl w1 e⟩
theorem SS.Fine.finish {s : SS} (h : s.Fine) : s.finish.Fine := by
  unfold SS.finish
  split
  · exact h.over (by decide) (by decide)
  · exact h
theorem SS.Fine.abort {s : SS} (h : s.Fine) (y : Int) : (s.abort y).Fine := by
  unfold SS.abort
  split
  · rename_i e
    unfold SS.abortE at e
    split at e
    · cases e
    · split at e
      · cases e
      · exact h.over (by decide) (by omega)
  · exact h
/-- Any act. -/
def SS.act (s : SS) (d p n a : Int) (ks : List Int) : SS := if d = 0 then s.await p ks else if d = 1 then s.take p n a else if d = 2 then s.tick n else if d = 3 then s.finish else if d = 4 then s.abort n else s
def SS.actE (s : SS) (d p n : Int) (ks : List Int) : Int := if d = 0 then s.awaitE p ks else if d = 1 then s.takeE p n else if d = 2 then s.tickE n else if d = 3 then s.finishE else if d = 4 then s.abortE n else 0
theorem SS.Fine.act {s : SS} (h : s.Fine) (d p n a : Int) (ks : List Int) : (s.act d p n a ks).Fine := by
  unfold SS.act
  split
  · exact h.await p ks
  · split
    · exact h.take p n a
    · split
      · exact h.tick n
      · split
        · exact h.finish
        · split
          · exact h.abort n
          · exact h
/-- What is over stays so. -/
theorem SS.act_over {s : SS} (h : s.phase ≠ 0) (d p n a : Int) (ks : List Int) : s.act d p n a ks = s := by
  have e1 : s.awaitE p ks = 17 := by unfold SS.awaitE; rw [if_pos h]
  have e2 : s.finishE = 17 := by unfold SS.finishE; rw [if_pos h]
  have e3 : s.abortE n = 17 := by unfold SS.abortE; rw [if_pos h]
  unfold SS.act SS.await SS.take SS.tick SS.finish SS.abort
  rw [e1, e2, e3, if_pos h, if_pos h]
  simp
theorem SS.abort_over {s : SS} (h : s.Fine) : (s.abort 77).phase = 1 ∨ (s.abort 77).phase = 2 := by
  unfold SS.abort
  by_cases c : s.phase = 0
  · have e : s.abortE 77 = 0 := by
      unfold SS.abortE
      rw [if_neg (by omega), if_neg (by omega)]
    rw [if_pos e]
    exact .inr rfl
  · have e : s.abortE 77 = 17 := by unfold SS.abortE; rw [if_pos c]
    rw [e, if_neg (by decide)]
    have := h.pha
    omega
theorem SS.who_over {s : SS} (h : s.phase ≠ 0) : s.who = [] := by unfold SS.who; rw [if_pos h]
theorem SS.who_lt {s : SS} {p : Nat} (h : p ∈ s.who) : p < s.parties := by
  unfold SS.who at h
  split at h
  · cases h
  · exact List.mem_range.1 (List.mem_filter.1 h).1
theorem SS.who_len (s : SS) : s.who.length ≤ s.parties := by
  unfold SS.who
  split
  · exact Nat.zero_le _
  · exact Nat.le_trans (List.length_filter_le _ _) (by simp)
/-- A session that waits for a peer since a time goes on to wait for it, or is over, if it takes no message of it. -/
theorem SS.act_waits {s : SS} {q : Nat} {x : Nat × List Int} (hw : s.waits q = some x) (d p n a : Int) (ks : List Int) (hn : ¬ (d = 1 ∧ p = q)) : (s.act d p n a ks).phase ≠ 0 ∨ (s.act d p n a ks).waits q = some x := by
  have keep : ∀ t : SS, (t = s ∨ t.phase ≠ 0 ∨ t.waits q = some x) → t.phase ≠ 0 ∨ t.waits q = some x := fun t h => by
    rcases h with rfl | h
    · exact .inr hw
    · exact h
  apply keep
  unfold SS.act
  split
  · unfold SS.await
    split
    · rename_i e
      refine .inr (.inr ?_)
      have h5 := (awaitE_zero e).2.2.2.2
      unfold SS.waitsFor at h5
      show (if q = p.toNat then _ else s.waits q) = _
      rw [if_neg (fun e2 => by rw [← e2, hw] at h5; simp at h5)]
      exact hw
    · exact .inl rfl
  · split
    · rename_i hd
      unfold SS.take
      split
      · exact .inl rfl
      · split
        · exact .inl rfl
        · rename_i hp
          have hp := (s.isPeer_iff p).1 (by simpa using hp)
          split
          · exact .inr (.inl (by show (2 : Nat) ≠ 0; omega))
          · split
            · refine .inr (.inr ?_)
              show (if q = p.toNat then _ else s.waits q) = _
              rw [if_neg (fun e2 => hn ⟨hd, by omega⟩)]
              exact hw
            · exact .inr (.inl (by show (2 : Nat) ≠ 0; omega))
    · split
      · unfold SS.tick
        split
        · exact .inl rfl
        · split
          · exact .inl rfl
          · split
            · exact .inr (.inl (by show (2 : Nat) ≠ 0; omega))
            · exact .inr (.inr hw)
      · split
        · unfold SS.finish
          split
          · exact .inr (.inl (by show (1 : Nat) ≠ 0; omega))
          · exact .inl rfl
        · split
          · unfold SS.abort
            split
            · exact .inr (.inl (by show (2 : Nat) ≠ 0; omega))
            · exact .inl rfl
          · exact .inl rfl
theorem SS.act_now {s : SS} (d p n a : Int) (ks : List Int) : s.now ≤ (s.act d p n a ks).now ∧ (s.act d p n a ks).patience = s.patience := by
  have keep : ∀ t : SS, (s.now ≤ t.now ∧ t.patience = s.patience) → s.now ≤ t.now ∧ t.patience = s.patience := fun t h => h
  apply keep
  unfold SS.act
  split
  · unfold SS.await
    split <;> exact ⟨Nat.le_refl _, rfl⟩
  · split
    · unfold SS.take
      repeat' split
      all_goals exact ⟨Nat.le_refl _, rfl⟩
    · split
      · unfold SS.tick
        repeat' split
        all_goals first | exact ⟨Nat.le_refl _, rfl⟩ | exact ⟨Nat.le_add_right _ _, rfl⟩
      · split
        · unfold SS.finish
          split <;> exact ⟨Nat.le_refl _, rfl⟩
        · split
          · unfold SS.abort
            split <;> exact ⟨Nat.le_refl _, rfl⟩
          · exact ⟨Nat.le_refl _, rfl⟩
end Go.Proofs.Ytbfjcfebbadkcaa

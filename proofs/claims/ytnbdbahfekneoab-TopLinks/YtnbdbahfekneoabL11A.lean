/-
  Two ends of a link, by definition: what they take, send, hold and get; that what one got is the beginning of what the other took.
  Two ends of a link: what one got is the beginning of what the other took; when all frames come, all is got and sure.
-/
import Derived.Test.YtnbdbahfekneoabF10A
namespace Go.Proofs.Ytnbdbahfekneoab
open Go.RowKit

/-- A frame. -/
structure Fr11 where
  data : Bool
  seq : Nat
  ack : Nat
  body : List Int
/-- What an end knows. -/
structure LS where
  win : Nat
  took : List (List Int)
  sure : Nat
  sent : Nat
  all : List (List Int)
  told : Nat
  hold : Nat → Option (List Int)
  owes : Bool
  tick : Bool
def LS.new (win : Nat) : LS := ⟨win, [], 0, 0, [], 0, fun _ => none, false, false⟩
/-- A message is taken, or not: the fault's number. -/
def LS.sendE (x : LS) (body : List Int) : Int := if 1048576 < body.length ∨ 1073741824 ≤ x.took.length then 1 else if x.sure + 64 ≤ x.took.length then 15 else 0
def LS.send (x : LS) (body : List Int) : LS := if x.sendE body = 0 then { x with took := x.took ++ [body] } else x
def LS.ticked (x : LS) : LS := { x with tick := true }
/-- The frame of the message with that number. -/
def LS.data (x : LS) (n : Nat) : Fr11 := ⟨true, n, x.all.length, x.took.getD n []⟩
/-- How many are sent behind Out. -/
def LS.due (x : LS) : Nat := max x.sent (min x.took.length (x.sure + x.win))
/-- From where on frames come out. -/
def LS.from (x : LS) : Nat := if x.tick then x.sure else x.sent
/-- The messages' frames that come out. -/
def LS.outD (x : LS) : List Fr11 := (List.range' x.from (x.due - x.from)).map x.data
def LS.outF (x : LS) : List Fr11 := if x.outD = [] ∧ x.owes = true then [⟨false, 0, x.all.length, []⟩] else x.outD
def LS.out (x : LS) : LS := { x with sent := x.due, owes := false, tick := false }
/-- What is held and due is got. -/
def LS.drain : Nat → LS → LS
  | 0, x => x
  | k + 1, x => match x.hold x.all.length with
    | none => x
    | some b => LS.drain k { x with all := x.all ++ [b], hold := fun n => if n = x.all.length then none else x.hold n }
/-- A message is held, if it may be, and is held not yet. -/
def LS.keep (x : LS) (n : Nat) (b : List Int) : LS := if x.all.length ≤ n ∧ n < x.all.length + 16 ∧ x.hold n = none then { x with hold := fun m => if m = n then some b else x.hold m } else x
def LS.acked (x : LS) (a : Nat) : LS := { x with sure := max x.sure a }
/-- A frame comes. -/
def LS.inF (x : LS) (f : Fr11) : LS :=
  if x.sent < f.ack then x else if f.data = true then LS.drain 16 (LS.keep { x.acked f.ack with owes := true } f.seq f.body) else x.acked f.ack
def LS.inE (x : LS) (f : Fr11) : Int := if x.sent < f.ack then 14 else 0

/-- What an end knows by itself. -/
structure LS.Fine (x : LS) : Prop where
  sure : x.sure ≤ x.sent
  sent : x.sent ≤ x.took.length
  win : x.sent ≤ x.sure + x.win
  w16 : 1 ≤ x.win ∧ x.win ≤ 16
  hold : ∀ n b, x.hold n = some b → x.all.length ≤ n ∧ n < x.all.length + 16
  told : x.told ≤ x.all.length
/-- What an end knows while it takes in. -/
structure LS.Loose (x : LS) : Prop where
  sure : x.sure ≤ x.sent
  sent : x.sent ≤ x.took.length
  win : x.sent ≤ x.sure + x.win
  w16 : 1 ≤ x.win ∧ x.win ≤ 16
  told : x.told ≤ x.all.length
theorem LS.Fine.loose {x : LS} (h : x.Fine) : x.Loose := ⟨h.sure, h.sent, h.win, h.w16, h.told⟩
theorem LS.new_fine {win : Nat} (h : 1 ≤ win ∧ win ≤ 16) : (LS.new win).Fine := ⟨Nat.le_refl _, Nat.le_refl _, Nat.zero_le _, h, fun _ _ e => (by cases e), Nat.le_refl _⟩
theorem LS.send_fine {x : LS} (h : x.Fine) (b : List Int) : (x.send b).Fine := by
  unfold LS.send
  split
  · exact ⟨h.sure, by have := h.sent; simp; omega, h.win, h.w16, h.hold, h.told⟩
  · exact h
theorem LS.tick_fine {x : LS} (h : x.Fine) : x.ticked.Fine := ⟨h.sure, h.sent, h.win, h.w16, h.hold, h.told⟩
theorem LS.due_le {x : LS} (h : x.Fine) : x.sent ≤ x.due ∧ x.due ≤ x.took.length ∧ x.due ≤ x.sure + x.win := by
  have h1 := h.sent
  have h2 := h.win
  unfold LS.due
  omega
theorem LS.out_fine {x : LS} (h : x.Fine) : x.out.Fine := by
  obtain ⟨h1, h2, h3⟩ := LS.due_le h
  have := h.sure
  exact ⟨show x.sure ≤ x.due by omega, h2, h3, h.w16, h.hold, h.told⟩

/-- What draining does. -/
structure LS.Drained (x y : LS) : Prop where
  same : y.win = x.win ∧ y.took = x.took ∧ y.sure = x.sure ∧ y.sent = x.sent ∧ y.told = x.told ∧ y.owes = x.owes ∧ y.tick = x.tick
  got : ∃ l, y.all = x.all ++ l ∧ (∀ i, i < l.length → x.hold (x.all.length + i) = some (l.getD i [])) ∧ (∀ n, y.hold n = if n < y.all.length ∧ x.all.length ≤ n then none else x.hold n)
theorem LS.drain_of : ∀ (k : Nat) (x : LS), LS.Drained x (LS.drain k x)
  | 0, x => ⟨⟨rfl, rfl, rfl, rfl, rfl, rfl, rfl⟩, [], by simp [LS.drain], fun i hi => absurd hi (by simp), fun n => by
    rw [if_neg (by show ¬ (n < x.all.length ∧ x.all.length ≤ n); omega)]
    rfl⟩
  | k + 1, x => by
    unfold LS.drain
    cases h : x.hold x.all.length with
    | none =>
      exact ⟨⟨rfl, rfl, rfl, rfl, rfl, rfl, rfl⟩, [], by simp, fun i hi => absurd hi (by simp), fun n => by
        rw [if_neg (by show ¬ (n < x.all.length ∧ x.all.length ≤ n); omega)]⟩
    | some b =>
      obtain ⟨s, l, h1, h2, h3⟩ := LS.drain_of k { x with all := x.all ++ [b], hold := fun n => if n = x.all.length then none else x.hold n }
      refine ⟨s, b :: l, by rw [h1]; simp, fun i hi => ?_, fun n => ?_⟩
      · cases i with
        | zero => simpa using h
        | succ i =>
          have := h2 i (by simpa using hi)
          simp only [List.length_append, List.length_cons, List.length_nil] at this
          rw [if_neg (by omega)] at this
          rw [show x.all.length + (i + 1) = x.all.length + (0 + 1) + i by omega, this]
          rfl
      · rw [h3 n]
        have hl : x.all.length < (LS.drain k { x with all := x.all ++ [b], hold := fun n => if n = x.all.length then none else x.hold n }).all.length := by rw [h1]; simp
        simp only [List.length_append, List.length_cons, List.length_nil]
        by_cases c : n = x.all.length
        · subst c
          rw [if_pos (show x.all.length < _ ∧ x.all.length ≤ x.all.length from ⟨hl, Nat.le_refl _⟩), if_pos rfl]
          split <;> rfl
        · rw [if_neg c]
          by_cases c2 : n < (LS.drain k { x with all := x.all ++ [b], hold := fun n => if n = x.all.length then none else x.hold n }).all.length ∧ x.all.length ≤ n
          · rw [if_pos c2, if_pos ⟨c2.1, by omega⟩]
          · rw [if_neg c2, if_neg (by omega)]
/-- All that is due is got. -/
theorem LS.drain_end : ∀ (k : Nat) (x : LS), (∀ n b, x.hold n = some b → n < x.all.length + k) → (LS.drain k x).hold (LS.drain k x).all.length = none
  | 0, x, h => by
    show x.hold x.all.length = none
    cases e : x.hold x.all.length with
    | none => rfl
    | some b => have := h _ _ e; omega
  | k + 1, x, h => by
    unfold LS.drain
    cases e : x.hold x.all.length with
    | none => exact e
    | some b =>
      refine LS.drain_end k _ (fun n c hn => ?_)
      simp only at hn
      split at hn
      · cases hn
      · have := h n c hn
        simp
        omega

theorem LS.keep_same (x : LS) (n : Nat) (b : List Int) : (x.keep n b).win = x.win ∧ (x.keep n b).took = x.took ∧ (x.keep n b).sure = x.sure ∧ (x.keep n b).sent = x.sent ∧ (x.keep n b).told = x.told ∧ (x.keep n b).owes = x.owes ∧ (x.keep n b).tick = x.tick ∧ (x.keep n b).all = x.all := by
  unfold LS.keep
  split <;> exact ⟨rfl, rfl, rfl, rfl, rfl, rfl, rfl, rfl⟩
/-- What a frame of a message does. -/
structure LS.Got (x y : LS) (f : Fr11) : Prop where
  same : y.win = x.win ∧ y.took = x.took ∧ y.sure = max x.sure f.ack ∧ y.sent = x.sent ∧ y.told = x.told ∧ y.owes = true ∧ y.tick = x.tick
  fine : y.Fine
  more : x.all.length ≤ y.all.length ∧ (f.seq = x.all.length → x.all.length < y.all.length)
  part : ∀ (T : List (List Int)), x.all = T.take x.all.length → x.all.length ≤ T.length → (∀ n b, x.hold n = some b → T[n]? = some b) → T[f.seq]? = some f.body → y.all = T.take y.all.length ∧ y.all.length ≤ T.length ∧ ∀ n b, y.hold n = some b → T[n]? = some b
theorem LS.in_got {x : LS} (h : x.Fine) {f : Fr11} (hd : f.data = true) (ha : f.ack ≤ x.sent) : LS.Got x (x.inF f) f := by
  have hin : x.inF f = LS.drain 16 (LS.keep { x.acked f.ack with owes := true } f.seq f.body) := by
    unfold LS.inF
    rw [if_neg (by omega), if_pos hd]
  rw [hin]
  obtain ⟨q, hq⟩ : ∃ q : LS, q = { x.acked f.ack with owes := true } := ⟨_, rfl⟩
  have q1 : q.win = x.win ∧ q.took = x.took ∧ q.sure = max x.sure f.ack ∧ q.sent = x.sent ∧ q.told = x.told ∧ q.owes = true ∧ q.tick = x.tick ∧ q.all = x.all ∧ q.hold = x.hold := by
    subst hq
    exact ⟨rfl, rfl, rfl, rfl, rfl, rfl, rfl, rfl, rfl⟩
  rw [← hq]
  obtain ⟨k, hk⟩ : ∃ k, k = q.keep f.seq f.body := ⟨_, rfl⟩
  have ks := LS.keep_same q f.seq f.body
  rw [← hk] at ks
  have kh : ∀ n b, k.hold n = some b → x.hold n = some b ∨ (n = f.seq ∧ b = f.body ∧ x.all.length ≤ n ∧ n < x.all.length + 16) := by
    intro n b hn
    rw [hk] at hn
    unfold LS.keep at hn
    split at hn
    · rename_i c
      simp only at hn
      split at hn
      · rename_i e
        rw [q1.2.2.2.2.2.2.2.1] at c
        exact .inr ⟨e, (Option.some.inj hn).symm, by omega, by omega⟩
      · rw [q1.2.2.2.2.2.2.2.2] at hn; exact .inl hn
    · rw [q1.2.2.2.2.2.2.2.2] at hn; exact .inl hn
  have kn : f.seq = x.all.length → k.hold x.all.length ≠ none := by
    intro e
    rw [hk]
    unfold LS.keep
    rw [q1.2.2.2.2.2.2.2.1, q1.2.2.2.2.2.2.2.2, e]
    by_cases hx : x.hold x.all.length = none
    · rw [if_pos ⟨Nat.le_refl _, by omega, hx⟩]
      simp
    · rw [if_neg (fun c => hx c.2.2)]
      show q.hold _ ≠ none
      rw [q1.2.2.2.2.2.2.2.2]
      exact hx
  have kall : k.all = x.all := ks.2.2.2.2.2.2.2.trans q1.2.2.2.2.2.2.2.1
  rw [← hk]
  obtain ⟨y, hy⟩ : ∃ y, y = LS.drain 16 k := ⟨_, rfl⟩
  have hd1 := LS.drain_of 16 k
  have hd2 := LS.drain_end 16 k (fun n b hn => by
    rw [kall]
    rcases kh n b hn with c | ⟨_, _, _, c⟩
    · exact (h.hold n b c).2
    · exact c)
  rw [← hy] at hd1 hd2 ⊢
  obtain ⟨ds, l, d1, d2, d3⟩ := hd1
  rw [kall] at d1 d2 d3
  have yl : y.all.length = x.all.length + l.length := by rw [d1]; simp
  refine ⟨⟨ds.1.trans (ks.1.trans q1.1), ds.2.1.trans (ks.2.1.trans q1.2.1), ds.2.2.1.trans (ks.2.2.1.trans q1.2.2.1), ds.2.2.2.1.trans (ks.2.2.2.1.trans q1.2.2.2.1), ds.2.2.2.2.1.trans (ks.2.2.2.2.1.trans q1.2.2.2.2.1), ds.2.2.2.2.2.1.trans (ks.2.2.2.2.2.1.trans q1.2.2.2.2.2.1), ds.2.2.2.2.2.2.trans (ks.2.2.2.2.2.2.1.trans q1.2.2.2.2.2.2.1)⟩, ?_, ⟨by omega, fun e => ?_⟩, ?_⟩
  · have e1 : y.win = x.win := ds.1.trans (ks.1.trans q1.1)
    have e2 : y.took = x.took := ds.2.1.trans (ks.2.1.trans q1.2.1)
    have e3 : y.sure = max x.sure f.ack := ds.2.2.1.trans (ks.2.2.1.trans q1.2.2.1)
    have e4 : y.sent = x.sent := ds.2.2.2.1.trans (ks.2.2.2.1.trans q1.2.2.2.1)
    have e5 : y.told = x.told := ds.2.2.2.2.1.trans (ks.2.2.2.2.1.trans q1.2.2.2.2.1)
    have f1 := h.sure
    have f2 := h.sent
    have f3 := h.win
    have f4 := h.w16
    have f6 := h.told
    refine ⟨by omega, by rw [e2, e4]; exact f2, by omega, by rw [e1]; exact f4, fun n b hn => ?_, by omega⟩
    have hne : n ≠ y.all.length := fun e => by rw [e, hd2] at hn; cases hn
    rw [d3] at hn
    split at hn
    · cases hn
    · rename_i c
      rcases kh n b hn with g | ⟨_, _, g1, g2⟩
      · have := h.hold n b g
        omega
      · omega
  · cases hl : l with
    | nil =>
      subst hl
      rw [List.append_nil] at d1
      rw [d1, d3, if_neg (by rw [d1]; omega)] at hd2
      exact absurd hd2 (kn e)
    | cons b l' => rw [yl, hl]; simp
  · intro T t1 t2 t3 t4
    have kT : ∀ n b, k.hold n = some b → T[n]? = some b := fun n b hn => by
      rcases kh n b hn with g | ⟨rfl, rfl, _, _⟩
      · exact t3 n b g
      · exact t4
    have lT : ∀ i, i < l.length → T[x.all.length + i]? = some (l.getD i []) := fun i hi => kT _ _ (d2 i hi)
    have yT : y.all.length ≤ T.length := by
      rw [yl]
      rcases Nat.eq_zero_or_pos l.length with c | c
      · omega
      · have := (List.getElem?_eq_some_iff.1 (lT (l.length - 1) (by omega))).1
        omega
    refine ⟨?_, yT, fun n b hn => ?_⟩
    · rw [yl, d1]
      apply List.ext_getElem?
      intro i
      by_cases c : i < x.all.length
      · rw [List.getElem?_append_left c, List.getElem?_take, if_pos (by omega)]
        have := congrArg (fun z => z[i]?) t1
        simp only [List.getElem?_take, if_pos c] at this
        exact this
      · rw [List.getElem?_append_right (by omega)]
        by_cases c2 : i - x.all.length < l.length
        · have := lT (i - x.all.length) c2
          rw [show x.all.length + (i - x.all.length) = i by omega] at this
          rw [List.getElem?_take, if_pos (by omega), this]
          simp [List.getD, c2]
        · rw [List.getElem?_eq_none (by omega), List.getElem?_take, if_neg (by omega)]
    · rw [d3] at hn
      split at hn
      · cases hn
      · exact kT n b hn
theorem LS.in_ack {x : LS} (h : x.Fine) {f : Fr11} (hd : f.data = false) (ha : f.ack ≤ x.sent) : x.inF f = x.acked f.ack ∧ (x.acked f.ack).Fine := by
  refine ⟨?_, ?_⟩
  · unfold LS.inF
    rw [if_neg (by omega), if_neg (by simp [hd])]
  · have f1 := h.sure
    have f3 := h.win
    exact ⟨show max x.sure f.ack ≤ x.sent by omega, h.sent, show x.sent ≤ max x.sure f.ack + x.win by omega, h.w16, h.hold, h.told⟩
end Go.Proofs.Ytnbdbahfekneoab

namespace Go.Proofs.Ytnbdbahfekneoab
open Go.RowKit

/-- What was sent. -/
def LS.sentL (x : LS) : List (List Int) := x.took.take x.sent
theorem LS.sentL_len {x : LS} (h : x.Fine) : x.sentL.length = x.sent := by
  have := h.sent
  unfold LS.sentL
  simp
  omega
/-- What x knows of y, the frames of which are oy, those of x are ox. -/
structure Knows (x y : LS) (ox oy : List Fr11) : Prop where
  all : x.all = y.sentL.take x.all.length
  len : x.all.length ≤ y.sentL.length
  hold : ∀ n b, x.hold n = some b → y.sentL[n]? = some b
  sure : y.sure ≤ x.all.length
  frames : ∀ f, f ∈ oy → f.data = true → y.sentL[f.seq]? = some f.body
  acks : ∀ f, f ∈ ox → f.ack ≤ x.all.length
structure Both (x y : LS) (ox oy : List Fr11) : Prop where
  fx : x.Fine
  fy : y.Fine
  kx : Knows x y ox oy
  ky : Knows y x oy ox
theorem Both.turn {x y : LS} {ox oy : List Fr11} (h : Both x y ox oy) : Both y x oy ox := ⟨h.fy, h.fx, h.ky, h.kx⟩
theorem Both.new {win : Nat} (h : 1 ≤ win ∧ win ≤ 16) : Both (LS.new win) (LS.new win) [] [] :=
  ⟨LS.new_fine h, LS.new_fine h, ⟨rfl, Nat.le_refl _, fun _ _ e => (by cases e), Nat.le_refl _, fun _ e => (by cases e), fun _ e => (by cases e)⟩, ⟨rfl, Nat.le_refl _, fun _ _ e => (by cases e), Nat.le_refl _, fun _ e => (by cases e), fun _ e => (by cases e)⟩⟩
/-- What an end got is the beginning of what the other took. -/
theorem Both.begins {x y : LS} {ox oy : List Fr11} (h : Both x y ox oy) : x.all.length ≤ y.took.length ∧ x.all = y.took.take x.all.length ∧ y.sure ≤ x.all.length := by
  have h1 := h.kx.len
  rw [LS.sentL_len h.fy] at h1
  have h2 := h.fy.sent
  refine ⟨by omega, ?_, h.kx.sure⟩
  have e := h.kx.all
  unfold LS.sentL at e
  rw [List.take_take, Nat.min_eq_left h1] at e
  exact e
theorem Both.send {x y : LS} {ox oy : List Fr11} (h : Both x y ox oy) (b : List Int) : Both (x.send b) y ox oy := by
  have hs : (x.send b).sentL = x.sentL ∧ (x.send b).all = x.all ∧ (x.send b).hold = x.hold ∧ (x.send b).sure = x.sure := by
    unfold LS.send
    split
    · refine ⟨?_, rfl, rfl, rfl⟩
      show (x.took ++ [b]).take x.sent = x.took.take x.sent
      exact List.take_append_of_le_length h.fx.sent
    · exact ⟨rfl, rfl, rfl, rfl⟩
  obtain ⟨e1, e2, e3, e4⟩ := hs
  refine ⟨LS.send_fine h.fx b, h.fy, ⟨by rw [e2]; exact h.kx.all, by rw [e2]; exact h.kx.len, by rw [e3]; exact h.kx.hold, by rw [e2]; exact h.kx.sure, h.kx.frames, by rw [e2]; exact h.kx.acks⟩, ⟨by rw [e1]; exact h.ky.all, by rw [e1]; exact h.ky.len, by rw [e1]; exact h.ky.hold, by rw [e4]; exact h.ky.sure, by rw [e1]; exact h.ky.frames, h.ky.acks⟩⟩
theorem Both.tick {x y : LS} {ox oy : List Fr11} (h : Both x y ox oy) : Both x.ticked y ox oy :=
  ⟨LS.tick_fine h.fx, h.fy, ⟨h.kx.all, h.kx.len, h.kx.hold, h.kx.sure, h.kx.frames, h.kx.acks⟩, ⟨h.ky.all, h.ky.len, h.ky.hold, h.ky.sure, h.ky.frames, h.ky.acks⟩⟩
theorem LS.outF_ack {x : LS} {f : Fr11} (h : f ∈ x.outF) : f.ack = x.all.length := by
  unfold LS.outF at h
  split at h
  · simp at h
    rw [h]
  · unfold LS.outD at h
    simp at h
    obtain ⟨n, _, rfl⟩ := h
    rfl
theorem LS.outF_data {x : LS} (hx : x.Fine) {f : Fr11} (h : f ∈ x.outF) (hd : f.data = true) : f.seq < x.due ∧ x.took[f.seq]? = some f.body := by
  unfold LS.outF at h
  split at h
  · simp at h
    rw [h] at hd
    cases hd
  · unfold LS.outD at h
    simp only [List.mem_map, List.mem_range'_1] at h
    obtain ⟨n, hn, rfl⟩ := h
    have h2 := (LS.due_le hx).2.1
    refine ⟨show n < x.due by omega, ?_⟩
    show x.took[n]? = some (x.took.getD n [])
    simp [List.getD, show n < x.took.length by omega]
theorem Both.out {x y : LS} {ox oy : List Fr11} (h : Both x y ox oy) : Both x.out y (ox ++ x.outF) oy := by
  obtain ⟨d1, d2, d3⟩ := LS.due_le h.fx
  have hs : x.sentL = x.out.sentL.take x.sent := by
    show x.took.take x.sent = (x.took.take x.due).take x.sent
    rw [List.take_take, Nat.min_eq_left d1]
  have hl : x.out.sentL.length = x.due := LS.sentL_len (LS.out_fine h.fx)
  have hk : ∀ n b, x.sentL[n]? = some b → x.out.sentL[n]? = some b := fun n b hn => by
    rw [hs, List.getElem?_take] at hn
    split at hn
    · exact hn
    · cases hn
  have hlen := h.ky.len
  rw [LS.sentL_len h.fx] at hlen
  refine ⟨LS.out_fine h.fx, h.fy, ⟨h.kx.all, h.kx.len, h.kx.hold, h.kx.sure, h.kx.frames, fun f hf => ?_⟩, ⟨?_, by rw [hl]; omega, fun n b hn => hk n b (h.ky.hold n b hn), h.ky.sure, fun f hf hd => ?_, h.ky.acks⟩⟩
  · rcases List.mem_append.1 hf with c | c
    · exact h.kx.acks f c
    · rw [LS.outF_ack c]
      exact Nat.le_refl _
  · have e := h.ky.all
    rw [hs, List.take_take, Nat.min_eq_left hlen] at e
    exact e
  · rcases List.mem_append.1 hf with c | c
    · exact hk _ _ (h.ky.frames f c hd)
    · obtain ⟨k1, k2⟩ := LS.outF_data h.fx c hd
      show (x.took.take x.due)[f.seq]? = some f.body
      rw [List.getElem?_take, if_pos k1]
      exact k2
/-- A frame of the other end comes. -/
theorem Both.in {x y : LS} {ox oy : List Fr11} (h : Both x y ox oy) {f : Fr11} (hf : f ∈ oy) : f.ack ≤ x.sent ∧ Both (x.inF f) y ox oy := by
  have ha : f.ack ≤ x.sent := by
    have h1 := h.ky.acks f hf
    have h2 := h.ky.len
    rw [LS.sentL_len h.fx] at h2
    omega
  refine ⟨ha, ?_⟩
  cases hd : f.data with
  | false =>
    obtain ⟨e, hfi⟩ := LS.in_ack h.fx hd ha
    rw [e]
    exact ⟨hfi, h.fy, ⟨h.kx.all, h.kx.len, h.kx.hold, h.kx.sure, h.kx.frames, h.kx.acks⟩, ⟨h.ky.all, h.ky.len, h.ky.hold, show max x.sure f.ack ≤ y.all.length from Nat.max_le.2 ⟨h.ky.sure, h.ky.acks f hf⟩, h.ky.frames, h.ky.acks⟩⟩
  | true =>
    have g := LS.in_got h.fx hd ha
    obtain ⟨y1, y2, y3, y4, y5, y6, y7⟩ := g.same
    obtain ⟨p1, p2, p3⟩ := g.part y.sentL h.kx.all h.kx.len h.kx.hold (h.kx.frames f hf hd)
    have hsl : (x.inF f).sentL = x.sentL := by
      unfold LS.sentL
      rw [y2, y4]
    have hm := g.more.1
    refine ⟨g.fine, h.fy, ⟨p1, p2, p3, by have := h.kx.sure; omega, h.kx.frames, fun q hq => by have := h.kx.acks q hq; omega⟩, ⟨by rw [hsl]; exact h.ky.all, by rw [hsl]; exact h.ky.len, by rw [hsl]; exact h.ky.hold, ?_, by rw [hsl]; exact h.ky.frames, h.ky.acks⟩⟩
    rw [y3]
    exact Nat.max_le.2 ⟨h.ky.sure, h.ky.acks f hf⟩

/-- Frames come, one behind the other. -/
def LS.comes (x : LS) (fs : List Fr11) : LS := fs.foldl LS.inF x
theorem LS.comes_nil (x : LS) : x.comes [] = x := rfl
theorem LS.comes_cons (x : LS) (f : Fr11) (fs : List Fr11) : x.comes (f :: fs) = (x.inF f).comes fs := rfl
theorem Both.comes {x y : LS} {ox oy : List Fr11} : ∀ (fs : List Fr11) {x : LS}, Both x y ox oy → (∀ f, f ∈ fs → f ∈ oy) → Both (x.comes fs) y ox oy
  | [], _, h, _ => h
  | f :: fs, _, h, hf => Both.comes (x := x) fs (h.in (hf f (by simp))).2 (fun g hg => hf g (by simp [hg]))
/-- What frames that all come with one Ack do. -/
structure Came (x y : LS) (A : Nat) : Prop where
  win : y.win = x.win
  took : y.took = x.took
  sent : y.sent = x.sent
  tick : y.tick = x.tick
  fine : y.Fine
  more : x.all.length ≤ y.all.length
  sure : y.sure = max x.sure A
theorem came_data (y : LS) : ∀ (m a : Nat) {x : LS}, x.Fine → y.all.length ≤ x.sent → 0 < m → Came x (x.comes ((List.range' a m).map y.data)) y.all.length ∧ (x.comes ((List.range' a m).map y.data)).owes = true ∧ (a ≤ x.all.length → a + m ≤ (x.comes ((List.range' a m).map y.data)).all.length)
  | 0, _, _, _, _, h => absurd h (Nat.lt_irrefl _)
  | m + 1, a, x, hx, ha, _ => by
    have g := LS.in_got hx (f := y.data a) rfl ha
    obtain ⟨y1, y2, y3, y4, y5, y6, y7⟩ := g.same
    rw [List.range'_succ, List.map_cons, LS.comes_cons]
    have hgot : a ≤ x.all.length → a + 1 ≤ (x.inF (y.data a)).all.length := fun c => by
      have k1 := g.more.1
      rcases Nat.lt_or_ge a x.all.length with c1 | c1
      · omega
      · have := g.more.2 (show a = x.all.length by omega)
        omega
    rcases Nat.eq_zero_or_pos m with c | c
    · subst c
      rw [List.range'_zero, List.map_nil, LS.comes_nil]
      exact ⟨⟨y1, y2, y4, y7, g.fine, g.more.1, y3⟩, y6, hgot⟩
    · obtain ⟨k, ko, kg⟩ := came_data y m (a + 1) g.fine (by rw [y4]; exact ha) c
      refine ⟨⟨k.win.trans y1, k.took.trans y2, k.sent.trans y4, k.tick.trans y7, k.fine, Nat.le_trans g.more.1 k.more, ?_⟩, ko, fun e => ?_⟩
      · rw [k.sure, y3]
        show max (max x.sure y.all.length) y.all.length = max x.sure y.all.length
        omega
      · have := kg (hgot e)
        omega
/-- One end's frames, and whether there are any. -/
theorem came_out {x y : LS} (hx : x.Fine) (hy : y.Fine) (ha : y.all.length ≤ x.sent) (ht : y.tick = true) (hs : y.sure ≤ x.all.length) :
    (y.outF ≠ [] → Came x (x.comes y.outF) y.all.length) ∧ (y.outF = [] → y.owes = false ∧ y.took.length ≤ y.sure) ∧
    (y.sure < y.took.length → (x.comes y.outF).owes = true ∧ min y.took.length (y.sure + 1) ≤ (x.comes y.outF).all.length ∧ y.outF ≠ []) := by
  obtain ⟨d1, d2, d3⟩ := LS.due_le hy
  have h1 := hy.sure
  have h2 := hy.sent
  have h3 := hy.w16
  have hfrom : y.from = y.sure := by unfold LS.from; rw [if_pos ht]
  have hdue : min y.took.length (y.sure + y.win) ≤ y.due := by unfold LS.due; omega
  have hD : y.outD = (List.range' y.sure (y.due - y.sure)).map y.data := by unfold LS.outD; rw [hfrom]
  rcases Nat.eq_zero_or_pos (y.due - y.sure) with c | c
  · have hD0 : y.outD = [] := by rw [hD, c]; rfl
    have hall : y.took.length ≤ y.sure := by omega
    refine ⟨fun hne => ?_, fun he => ?_, fun hlt => by omega⟩
    · unfold LS.outF at hne ⊢
      by_cases o : y.outD = [] ∧ y.owes = true
      · rw [if_pos o]
        rw [LS.comes_cons, LS.comes_nil]
        obtain ⟨e, hf⟩ := LS.in_ack hx (f := ⟨false, 0, y.all.length, []⟩) rfl ha
        rw [e]
        exact ⟨rfl, rfl, rfl, rfl, hf, Nat.le_refl _, rfl⟩
      · rw [if_neg o, hD0] at hne
        exact absurd rfl hne
    · unfold LS.outF at he
      by_cases o : y.outD = [] ∧ y.owes = true
      · rw [if_pos o] at he
        cases he
      · refine ⟨?_, hall⟩
        cases q : y.owes with
        | false => rfl
        | true => exact absurd ⟨hD0, q⟩ o
  · have hne : y.outD ≠ [] := by
      rw [hD]
      intro e
      have := congrArg List.length e
      simp at this
      omega
    have hF : y.outF = (List.range' y.sure (y.due - y.sure)).map y.data := by
      unfold LS.outF
      rw [if_neg (fun e => hne e.1), hD]
    obtain ⟨k, ko, kg⟩ := came_data y (y.due - y.sure) y.sure hx ha c
    rw [← hF] at k ko kg
    have hFn : y.outF ≠ [] := by rw [hF, ← hD]; exact hne
    refine ⟨fun _ => k, fun e => absurd e hFn, fun hlt => ⟨ko, ?_, hFn⟩⟩
    have := kg hs
    omega
theorem came_all {x y : LS} (hx : x.Fine) (hy : y.Fine) (ha : y.all.length ≤ x.sent) (ht : y.tick = true) (hs : y.sure ≤ x.all.length) :
    (x.comes y.outF).took = x.took ∧ (x.comes y.outF).tick = x.tick ∧ x.sure ≤ (x.comes y.outF).sure ∧ x.all.length ≤ (x.comes y.outF).all.length ∧ (x.comes y.outF).win = x.win := by
  obtain ⟨h1, -, -⟩ := came_out hx hy ha ht hs
  by_cases c : y.outF = []
  · rw [c, LS.comes_nil]
    exact ⟨rfl, rfl, Nat.le_refl _, Nat.le_refl _, rfl⟩
  · have k := h1 c
    exact ⟨k.took, k.tick, by rw [k.sure]; exact Nat.le_max_left _ _, k.more, k.win⟩

/-- A round: both tick; one's frames come to the other, and back. -/
def roundX (x y : LS) : LS := x.ticked.out.comes (y.ticked.comes x.ticked.outF).outF
def roundY (x y : LS) : LS := (y.ticked.comes x.ticked.outF).out
/-- What a round does. -/
structure Round (x y x' y' : LS) (ox oy : List Fr11) : Prop where
  both : ∃ ox' oy', Both x' y' ox' oy'
  took : x'.took = x.took ∧ y'.took = y.took
  sureX : min x.took.length (x.sure + 1) ≤ x'.sure
  sureY : y.sure ≤ y'.sure ∧ (x.owes = true → x.all.length ≤ y'.sure)
  gotX : min y.took.length (y'.sure + 1) ≤ x'.all.length
  owes : x'.owes = true ∨ y.took.length ≤ y'.sure
theorem round_does {x y : LS} {ox oy : List Fr11} (h : Both x y ox oy) : Round x y (roundX x y) (roundY x y) ox oy := by
  have h1 : Both x.ticked y.ticked ox oy := (h.tick.turn.tick).turn
  have a1 : x.ticked.all.length ≤ y.ticked.sent := by
    have := h1.kx.len
    rw [LS.sentL_len h1.fy] at this
    exact this
  have s1 : x.ticked.sure ≤ y.ticked.all.length := h1.ky.sure
  have o1 := came_out h1.fy h1.fx a1 rfl s1
  have m1 := came_all h1.fy h1.fx a1 rfl s1
  have h2 : Both x.ticked.out y.ticked (ox ++ x.ticked.outF) oy := h1.out
  obtain ⟨Y, hY⟩ : ∃ Y, Y = y.ticked.comes x.ticked.outF := ⟨_, rfl⟩
  have h3 : Both x.ticked.out Y (ox ++ x.ticked.outF) oy := by
    rw [hY]
    exact (Both.comes (x := y) x.ticked.outF h2.turn (fun f hf => List.mem_append.2 (.inr hf))).turn
  rw [← hY] at o1 m1
  obtain ⟨m1a, m1b, m1c, m1d, m1e⟩ := m1
  have a3 : Y.all.length ≤ x.ticked.out.sent := by
    have := h3.ky.len
    rw [LS.sentL_len h3.fx] at this
    exact this
  have s3 : Y.sure ≤ x.ticked.out.all.length := h3.kx.sure
  have t3 : Y.tick = true := m1b
  have o3 := came_out h3.fx h3.fy a3 t3 s3
  have m3 := came_all h3.fx h3.fy a3 t3 s3
  have h4 : Both x.ticked.out Y.out (ox ++ x.ticked.outF) (oy ++ Y.outF) := h3.turn.out.turn
  have h5 : Both (x.ticked.out.comes Y.outF) Y.out (ox ++ x.ticked.outF) (oy ++ Y.outF) := Both.comes (x := x) Y.outF h4 (fun f hf => List.mem_append.2 (.inr hf))
  have eX : roundX x y = x.ticked.out.comes Y.outF := by rw [hY]; rfl
  have eY : roundY x y = Y.out := by rw [hY]; rfl
  rw [eX, eY]
  obtain ⟨m3a, m3b, m3c, m3d, m3e⟩ := m3
  have tY : Y.took = y.took := m1a
  refine ⟨⟨_, _, h5⟩, ⟨m3a, m1a⟩, ?_, ⟨m1c, fun ho => ?_⟩, ?_, ?_⟩
  · -- x's messages get sure
    by_cases c : x.sure < x.took.length
    · obtain ⟨q1, q2, q3⟩ := o1.2.2 c
      have hne : Y.outF ≠ [] := fun e => by
        have := (o3.2.1 e).1
        rw [q1] at this
        cases this
      have k := (o3.1 hne).sure
      rw [k]
      exact Nat.le_trans q2 (Nat.le_max_right _ _)
    · have : x.sure ≤ (x.ticked.out.comes Y.outF).sure := m3c
      omega
  · -- an answer was owed
    have hne : x.ticked.outF ≠ [] := fun e => by
      have := (o1.2.1 e).1
      rw [show x.ticked.owes = x.owes from rfl, ho] at this
      cases this
    have k := (o1.1 hne).sure
    show x.all.length ≤ Y.sure
    rw [k]
    exact Nat.le_max_right _ _
  · show min y.took.length (Y.sure + 1) ≤ _
    by_cases c : Y.sure < Y.took.length
    · have := (o3.2.2 c).2.1
      rw [tY] at this
      exact this
    · rw [tY] at c
      have : Y.sure ≤ x.all.length := s3
      have k : x.all.length ≤ (x.ticked.out.comes Y.outF).all.length := m3d
      omega
  · by_cases c : Y.sure < Y.took.length
    · exact .inl (o3.2.2 c).1
    · rw [tY] at c
      exact .inr (show y.took.length ≤ Y.sure by omega)
/-- So many rounds. -/
def rounds : Nat → LS × LS → LS × LS
  | 0, p => p
  | n + 1, p => rounds n (roundX p.1 p.2, roundY p.1 p.2)
theorem rounds_more : ∀ (n : Nat) (p : LS × LS), rounds (n + 1) p = (roundX (rounds n p).1 (rounds n p).2, roundY (rounds n p).1 (rounds n p).2)
  | 0, _ => rfl
  | n + 1, p => rounds_more n (roundX p.1 p.2, roundY p.1 p.2)
theorem rounds_do {x y : LS} {ox oy : List Fr11} (h : Both x y ox oy) : ∀ n, (∃ ox' oy', Both (rounds n (x, y)).1 (rounds n (x, y)).2 ox' oy') ∧ ((rounds n (x, y)).1.took = x.took ∧ (rounds n (x, y)).2.took = y.took) ∧ min x.took.length (x.sure + n) ≤ (rounds n (x, y)).1.sure ∧ y.sure ≤ (rounds n (x, y)).2.sure ∧
    (1 ≤ n → min y.took.length (y.sure + n) ≤ (rounds n (x, y)).1.all.length ∧ ((rounds n (x, y)).1.owes = true ∨ y.took.length ≤ (rounds n (x, y)).2.sure) ∧ min y.took.length (y.sure + (n - 1)) ≤ (rounds n (x, y)).2.sure)
  | 0 => ⟨⟨ox, oy, h⟩, ⟨rfl, rfl⟩, Nat.min_le_right _ _, Nat.le_refl _, fun e => absurd e (by omega)⟩
  | n + 1 => by
    obtain ⟨⟨ox', oy', hb⟩, ⟨t1, t2⟩, s1, s2, q⟩ := rounds_do h n
    rw [rounds_more]
    obtain ⟨X, hX⟩ : ∃ X, X = (rounds n (x, y)).1 := ⟨_, rfl⟩
    obtain ⟨Y, hY⟩ : ∃ Y, Y = (rounds n (x, y)).2 := ⟨_, rfl⟩
    rw [← hX, ← hY] at hb q ⊢
    rw [← hX] at t1 s1
    rw [← hY] at t2 s2
    obtain ⟨b1, ⟨b2, b3⟩, b4, ⟨b5, b6⟩, b7, b8⟩ := round_does hb
    rw [t1] at b4
    rw [t2] at b7 b8
    dsimp only
    refine ⟨b1, ⟨b2.trans t1, b3.trans t2⟩, by omega, Nat.le_trans s2 b5, fun _ => ⟨?_, b8, ?_⟩⟩
    · rcases Nat.eq_zero_or_pos n with c | c
      · omega
      · obtain ⟨q1, q2, q3⟩ := q c
        rcases q2 with o | o
        · have := b6 o
          omega
        · omega
    · rcases Nat.eq_zero_or_pos n with c | c
      · omega
      · obtain ⟨q1, q2, q3⟩ := q c
        rcases q2 with o | o
        · have := b6 o
          omega
        · omega
/-- When all frames come, all is got and sure. -/
theorem rounds_end {x y : LS} {ox oy : List Fr11} (h : Both x y ox oy) {n : Nat} (hn : max (x.took.length - x.sure) (y.took.length - y.sure) + 2 ≤ n) :
    ((rounds n (x, y)).1.sure = x.took.length ∧ (rounds n (x, y)).2.all.length = x.took.length) ∧ ((rounds n (x, y)).2.sure = y.took.length ∧ (rounds n (x, y)).1.all.length = y.took.length) := by
  obtain ⟨⟨ox', oy', hb⟩, ⟨t1, t2⟩, s1, s2, q⟩ := rounds_do h n
  obtain ⟨q1, -, q3⟩ := q (by omega)
  obtain ⟨k1, -, k2⟩ := hb.begins
  obtain ⟨k3, -, k4⟩ := hb.turn.begins
  rw [t2] at k1
  rw [t1] at k3
  omega
end Go.Proofs.Ytnbdbahfekneoab

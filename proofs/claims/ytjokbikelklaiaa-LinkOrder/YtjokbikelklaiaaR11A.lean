/-
  The document's end of a link: how it lies in memory; contracts of New, Tick.
  The document's end of a link: contracts of Send, Next.
  The document's end of a link: the contract of Next.
  The document's end of a link: the contract of data.
  The document's end of a link: the contract of Out.
-/
import Derived.Test.YtjokbikelklaiaaM11
import Derived.Test.YtjokbikelklaiaaL11A
import Derived.Test.YtjokbikelklaiaaR10B
import Derived.BigQuiet
import Derived.Deep.RegionHeld3
import Derived.Deep.RegionLaw
namespace Go.Proofs.Ytjokbikelklaiaa
open Go.RowKit

/-- A row of held messages: two cells each. -/
def RowH (w : World) (v : Value) (hs : List (Nat × List Int)) : Prop := ∃ vs : List Value, w.ownsRow 0 74 2 v hs.length vs ∧ ∀ i, i < hs.length → ∃ p n c, vs[i * 2]? = some (.int .i64 ((hs.getD i (0, [])).1 : Int)) ∧ vs[i * 2 + 1]? = some (.slice p n c) ∧ BytG w p n c (hs.getD i (0, [])).2
theorem RowH.nil (w : World) : RowH w (.slice none 0 0) [] := ⟨[], World.ownsRow_nil _ _ _ _, fun i hi => absurd hi (by simp)⟩
theorem RowH.only {C : Nat → Prop} {w w' : World} {v : Value} {hs : List (Nat × List Int)} (h : RowH w v hs) (k : Only C w w') (hv : ∀ b, v.ownBlock = some b → ¬ C b) (hC : ∀ b, C b → ¬ IsB w b) : RowH w' v hs := by
  obtain ⟨vs, h1, h2⟩ := h
  refine ⟨vs, row_only h1 k hv, fun i hi => ?_⟩
  obtain ⟨p, n, c, e, e2, hb⟩ := h2 i hi
  exact ⟨p, n, c, e, e2, hb.only k hC⟩
theorem RowH.lt {w : World} {v : Value} {hs : List (Nat × List Int)} (h : RowH w v hs) : ∀ b, v.ownBlock = some b → b < w.heap.size := fun b e => by
  obtain ⟨vs, h1, _⟩ := h
  exact (World.ownsRow.lt h1 b e).2
theorem RowH.notB {w : World} {v : Value} {hs : List (Nat × List Int)} (h : RowH w v hs) : ∀ b, v.ownBlock = some b → ¬ IsB w b := by
  obtain ⟨vs, h1, _⟩ := h
  exact row_notB h1 (by decide)
theorem RowH.slice {w : World} {v : Value} {hs : List (Nat × List Int)} (h : RowH w v hs) : ∃ a c, v = .slice a hs.length c ∧ (a = none → c = 0) ∧ hs.length ≤ c ∧ c ≤ maxLen := by
  obtain ⟨vs, h1, _⟩ := h
  rcases h1.2 with ⟨rfl, hn⟩ | ⟨g, cap, cur, rfl, _, _, hnc, hcm, _⟩
  · exact ⟨none, 0, by rw [hn], fun _ => rfl, by omega, Nat.zero_le _⟩
  · exact ⟨_, cap, rfl, fun e => (by cases e), hnc, hcm⟩
/-- What is held under a number. -/
def heldAt (hs : List (Nat × List Int)) (n : Nat) : Option (List Int) := (hs.find? (fun e => e.1 == n)).map Prod.snd

/-- The cells of an end. -/
def endCells (st : LS) (v1 v4 v6 : Value) : Array Value := #[.int .i64 st.win, v1, .int .i64 st.sure, .int .i64 st.sent, v4, .int .i64 st.told, v6, .bool st.owes, .bool st.tick]
structure REndV (w : World) (g : Nat) (st : LS) (v1 v4 v6 : Value) (hs : List (Nat × List Int)) (T : Nat → Prop) : Prop where
  heap : w.heap[g]? = some (.cells (endCells st v1 v4 v6) 43 (0, 0))
  foot : ∀ b, T b ↔ b = g ∨ v1.ownBlock = some b ∨ v4.ownBlock = some b ∨ v6.ownBlock = some b
  apart : (v1.ownBlock ≠ some g ∧ v4.ownBlock ≠ some g ∧ v6.ownBlock ≠ some g) ∧ (∀ b, v1.ownBlock = some b → v4.ownBlock ≠ some b ∧ v6.ownBlock ≠ some b) ∧ ∀ b, v4.ownBlock = some b → v6.ownBlock ≠ some b
  took : RowB w v1 st.took
  all : RowB w v4 st.all
  hold : RowH w v6 hs
  held : ∀ n, st.hold n = heldAt hs n
  keys : (hs.map Prod.fst).Nodup
  fine : st.Loose
  few : st.took.length ≤ 1073741824 ∧ st.all.length ≤ 1073741824 ∧ hs.length ≤ 16
  short : (∀ L, L ∈ st.took → L.length ≤ 1048576) ∧ (∀ L, L ∈ st.all → L.length ≤ 1048576) ∧ ∀ e, e ∈ hs → e.2.length ≤ 1048576
/-- The document's end lies at g, knows st; T: the blocks that it may turn. -/
def REnd (w : World) (g : Nat) (st : LS) (T : Nat → Prop) : Prop := st.Fine ∧ ∃ v1 v4 v6 hs, REndV w g st v1 v4 v6 hs T
theorem REndV.cell {w : World} {g : Nat} {st : LS} {v1 v4 v6 : Value} {hs : List (Nat × List Int)} {T : Nat → Prop} (h : REndV w g st v1 v4 v6 hs T) (j : Nat) : w.cell? ⟨g, j, none⟩ = (endCells st v1 v4 v6)[j]? := cell_of_row w g j _ _ _ h.heap
theorem REndV.frozen {w : World} {g : Nat} {st : LS} {v1 v4 v6 : Value} {hs : List (Nat × List Int)} {T : Nat → Prop} (h : REndV w g st v1 v4 v6 hs T) (j : Nat) : w.frozen? ⟨g, j, none⟩ = false := frozen_of_row w g j _ _ h.heap
theorem REndV.lt {w : World} {g : Nat} {st : LS} {v1 v4 v6 : Value} {hs : List (Nat × List Int)} {T : Nat → Prop} (h : REndV w g st v1 v4 v6 hs T) : g < w.heap.size := (Array.getElem?_eq_some_iff.1 h.heap).1
theorem REndV.old {w : World} {g : Nat} {st : LS} {v1 v4 v6 : Value} {hs : List (Nat × List Int)} {T : Nat → Prop} (h : REndV w g st v1 v4 v6 hs T) : ∀ b, T b → b < w.heap.size := fun b e => by
  rcases (h.foot b).1 e with e | e | e | e
  · rw [e]; exact h.lt
  · exact h.took.lt b e
  · exact h.all.lt b e
  · exact h.hold.lt b e
theorem REndV.notB {w : World} {g : Nat} {st : LS} {v1 v4 v6 : Value} {hs : List (Nat × List Int)} {T : Nat → Prop} (h : REndV w g st v1 v4 v6 hs T) : ∀ b, T b → ¬ IsB w b := fun b e => by
  rcases (h.foot b).1 e with e | e | e | e
  · rw [e]; exact IsB.not h.heap (by decide)
  · exact h.took.notB b e
  · exact h.all.notB b e
  · exact h.hold.notB b e
/-- What others turn does not touch it. -/
theorem REndV.other {w w' : World} {g : Nat} {st : LS} {v1 v4 v6 : Value} {hs : List (Nat × List Int)} {T C : Nat → Prop} (h : REndV w g st v1 v4 v6 hs T) (k : Only C w w') (hC : ∀ b, C b → ¬ T b) (hB : ∀ b, C b → ¬ IsB w b) : REndV w' g st v1 v4 v6 hs T := by
  have hg : w'.heap[g]? = w.heap[g]? := k.block g h.lt (fun e => hC g e ((h.foot g).2 (.inl rfl)))
  exact ⟨hg.trans h.heap, h.foot, h.apart, h.took.only k (fun b e q => hC b q ((h.foot b).2 (.inr (.inl e)))) hB, h.all.only k (fun b e q => hC b q ((h.foot b).2 (.inr (.inr (.inl e))))) hB, h.hold.only k (fun b e q => hC b q ((h.foot b).2 (.inr (.inr (.inr e))))) hB, h.held, h.keys, h.fine, h.few, h.short⟩
theorem REndV.below {w w' : World} {g : Nat} {st : LS} {v1 v4 v6 : Value} {hs : List (Nat × List Int)} {T : Nat → Prop} (h : REndV w g st v1 v4 v6 hs T) (hb : Below w.heap.size w w') : REndV w' g st v1 v4 v6 hs T := h.other (Only.of_below (T := fun _ => False) hb) (fun _ e => e.elim) (fun _ e => e.elim)
/-- One cell that holds no row is set anew. -/
theorem REndV.put {w : World} {g : Nat} {st st' : LS} {v1 v4 v6 : Value} {hs : List (Nat × List Int)} {T : Nat → Prop} (h : REndV w g st v1 v4 v6 hs T) (j : Nat) (x : Value) (hc : (endCells st v1 v4 v6).setIfInBounds j x = endCells st' v1 v4 v6) (h1 : st'.took = st.took) (h4 : st'.all = st.all) (h6 : st'.hold = st.hold) (hf : st'.Loose) :
    REndV (w.setCell ⟨g, j, none⟩ x) g st' v1 v4 v6 hs T ∧ Only T w (w.setCell ⟨g, j, none⟩ x) := by
  have hO : Only (fun b => b = g) w (w.setCell ⟨g, j, none⟩ x) := Only.of_grown (grown_set w g j x) (fun b e => by cases e; rfl)
  have hT : ∀ b, b = g → T b := fun b e => (h.foot b).2 (.inl e)
  have hn : ∀ b, b = g → ¬ IsB w b := fun b e => h.notB b (hT b e)
  refine ⟨⟨?_, h.foot, h.apart, ?_, ?_, ?_, by rw [h6]; exact h.held, h.keys, hf, by rw [h1, h4]; exact h.few, by rw [h1, h4]; exact h.short⟩, hO.wide hT⟩
  · rw [heap_setCell_same w g j _ _ x h.heap, hc]
  · rw [h1]
    exact h.took.only hO (fun b e q => h.apart.1.1 (by rw [e, q])) hn
  · rw [h4]
    exact h.all.only hO (fun b e q => h.apart.1.2.1 (by rw [e, q])) hn
  · exact h.hold.only hO (fun b e q => h.apart.1.2.2 (by rw [e, q])) hn

/-- What a call on an end makes of it. -/
def EndT11 (At : World → Nat → LS → (Nat → Prop) → Prop) (w : World) (g : Nat) (st : LS) (T : Nat → Prop) (w' : World) : Prop := ∃ T', At w' g st T' ∧ Only T w w' ∧ ∀ b, T' b → T b ∨ w.heap.size ≤ b

/-- What a call that makes an end makes. -/
def NewT11 (At : World → Nat → LS → (Nat → Prop) → Prop) (n : Int) (w : World) (e : Ending) (w' : World) : Prop := ((decide (1 ≤ n) && decide (n ≤ 16)) = false ∧ e = .returned (.tuple #[.pointer none, .int .i64 1]) ∧ Below w.heap.size w w') ∨ ((decide (1 ≤ n) && decide (n ≤ 16)) = true ∧ ∃ g T, e = .returned (.tuple #[.pointer (some ⟨g, 0, none⟩), .int .i64 0]) ∧ At w' g (LS.new n.toNat) T ∧ Below w.heap.size w w' ∧ (∀ b, T b → w.heap.size ≤ b))
def winB (n : Int) : Bool := decide (1 ≤ n) && decide (n ≤ 16)
set_option maxHeartbeats 800000 in
theorem r11new_any (n : Int) (w : World) : Calls Try.prog 8 #[.int .i64 n] w fun e w' => NewT11 REnd n w e w' := by
  by_cases h1 : n < 1
  · have h1d : decide (n < 1) = true := decide_eq_true h1
    have HW : Hid (winB n = false) := by show _ = _; unfold winB; rw [decide_eq_false (by omega), Bool.false_and]
    go_enter Try.func8, Try.ntmps8
    go_wp2
    go_ret2
    exact .inl ⟨HW.out, rfl, Below.refl _ _⟩
  have h1d : decide (n < 1) = false := decide_eq_false h1
  by_cases h2 : 16 < n
  · have h2d : decide (16 < n) = true := decide_eq_true h2
    have HW : Hid (winB n = false) := by show _ = _; unfold winB; rw [decide_eq_false (show ¬ n ≤ 16 by omega), Bool.and_false]
    go_enter Try.func8, Try.ntmps8
    go_wp2
    go_ret2
    exact .inl ⟨HW.out, rfl, Below.refl _ _⟩
  have h2d : decide (16 < n) = false := decide_eq_false h2
  obtain ⟨N, rfl⟩ : ∃ N : Nat, n = (N : Int) := ⟨n.toNat, by omega⟩
  have HW : Hid (winB N = true) := by show _ = _; unfold winB; rw [decide_eq_true (by omega), decide_eq_true (by omega)]; rfl
  have HE : Hid (REnd (w.alloc (.cells #[.int .i64 N, .slice none 0 0, .int .i64 0, .int .i64 0, .slice none 0 0, .int .i64 0, .slice none 0 0, .bool false, .bool false] 43)) w.heap.size (LS.new N) (fun b => b = w.heap.size)) := by
    refine ⟨LS.new_fine (by omega), .slice none 0 0, .slice none 0 0, .slice none 0 0, [], ⟨heap_alloc_new w _, fun b => ⟨fun e => .inl e, fun e => ?_⟩, ⟨⟨by simp [Value.ownBlock], by simp [Value.ownBlock], by simp [Value.ownBlock]⟩, fun b e => by simp [Value.ownBlock] at e, fun b e => by simp [Value.ownBlock] at e⟩, RowB.nil _, RowB.nil _, RowH.nil _, fun n => rfl, by simp, (LS.new_fine (by omega)).loose, ⟨Nat.zero_le _, Nat.zero_le _, Nat.zero_le _⟩, ⟨fun _ e => (by cases e), fun _ e => (by cases e), fun _ e => (by cases e)⟩⟩⟩
    rcases e with e | e | e | e
    · exact e
    · simp [Value.ownBlock] at e
    · simp [Value.ownBlock] at e
    · simp [Value.ownBlock] at e
  have hB := balloc w (.cells #[.int .i64 N, .slice none 0 0, .int .i64 0, .int .i64 0, .slice none 0 0, .int .i64 0, .slice none 0 0, .bool false, .bool false] 43)
  go_enter Try.func8, Try.ntmps8
  go_wp2
  go_ret2
  exact .inr ⟨HW.out, _, _, rfl, HE.out, hB, fun b e => by rw [e]; exact Nat.le_refl _⟩

set_option maxHeartbeats 800000 in
theorem r11tick_any (g : Nat) (st : LS) (T : Nat → Prop) (w : World) (h : REnd w g st T) : Calls Try.prog 12 #[.pointer (some ⟨g, 0, none⟩)] w fun e w' => e = .returned (.tuple #[]) ∧ EndT11 REnd w g st.ticked T w' := by
  obtain ⟨hF, v1, v4, v6, hs, h⟩ := h
  have c8 : w.cell? ⟨g, 8, none⟩ = some (.bool st.tick) := h.cell 8
  have f8 := h.frozen 8
  obtain ⟨k1, k2⟩ := h.put (st' := st.ticked) 8 (.bool true) rfl rfl rfl rfl (LS.tick_fine hF).loose
  have HE : Hid (EndT11 REnd w g st.ticked T (w.setCell ⟨g, 8, none⟩ (.bool true))) := ⟨T, ⟨LS.tick_fine hF, v1, v4, v6, hs, k1⟩, k2, fun b e => .inl e⟩
  clear k1 k2 h
  go_enter Try.func12, Try.ntmps12
  go_wp2
  go_end0
  exact ⟨rfl, HE.out⟩
end Go.Proofs.Ytjokbikelklaiaa

namespace Go.Proofs.Ytjokbikelklaiaa
open Go.RowKit

theorem Try.infoBL : (Try.prog.info? 31).map (fun i => (i.zero, i.size, i.bytes)) = some (some (.slice none 0 0), 1, 24) := by kernel_rfl
/-- One row more is appended to a row of rows. -/
theorem wp_appRow (w : World) {o : Oper} {a : Act} {K : Act → World → Prop} {Q : Exit → Act → World → Prop} (s x : Operand) (t : TypeId)
    (ho : o.op = .call { callee := .builtin .append, args := #[s, x], argTypes := #[t, t] }) (ht : Try.prog.underlying t = some (.slice 31))
    (v : Value) (vs : List Value) (n : Nat) (hs : a.eval s = v) (hown : w.ownsRow 0 31 1 v n vs) (g1 : Nat) (u : Value) (hx : a.eval x = .slice (some ⟨g1, 0, none⟩) 1 1) (hu : w.cell? ⟨g1, 0, none⟩ = some u) (hu1 : u.oneCell' = true) (hn : n ≤ 2147483648)
    (h : ∀ v' w', w'.ownsRow 0 31 1 v' (n + 1) (vs ++ [u]) → w.grownBy w' v.ownBlock → (v'.ownBlock = v.ownBlock ∨ v'.ownBlock = some w.heap.size) → K (a.put o.dst v') w') : Oper.wp Try.prog o a w K Q := by
  obtain ⟨i0, hi, hz0, hz1, hz2⟩ := info_parts Try.infoBL
  obtain ⟨v', w', hr, h2, h3, h4, h5⟩ := run_append_own_at (P := Try.prog) w 0 t o.type 31 i0 (.slice none 0 0) 1 24 ht hi hz0 hz1 hz2 rfl (by decide) v n vs hown ⟨g1, 0, none⟩ 1 1 [u] rfl (fun j q hj => by
    match j, hj with
    | 0, hj =>
      simp at hj
      subst hj
      rw [Addr.add_lit]
      exact hu) (fun q hq => by simp at hq; subst hq; exact hu1) (by unfold maxLen; omega) (by omega) (Nat.zero_le _)
  unfold Oper.wp
  simp [execOp, ho, resolve, invoke, builtin, hs, hx, hr, Result.andThen]
  exact h v' w' h2 h3 h5
theorem step_appRow (w : World) {ops : Array Oper} {o : Oper} {a : Act} {K : Act → World → Prop} {Q : Exit → Act → World → Prop} {E : Prop} (hgd : o.guard = none) (s x : Operand) (t : TypeId)
    (ho : o.op = .call { callee := .builtin .append, args := #[s, x], argTypes := #[t, t] }) (ht : Try.prog.underlying t = some (.slice 31))
    (v : Value) (vs : List Value) (n : Nat) (hs : a.eval s = v) (hown : w.ownsRow 0 31 1 v n vs) (g1 : Nat) (u : Value) (hx : a.eval x = .slice (some ⟨g1, 0, none⟩) 1 1) (hu : w.cell? ⟨g1, 0, none⟩ = some u) (hu1 : u.oneCell' = true) (hn : n ≤ 2147483648)
    (h : ∀ v' w', w'.ownsRow 0 31 1 v' (n + 1) (vs ++ [u]) → w.grownBy w' v.ownBlock → (v'.ownBlock = v.ownBlock ∨ v'.ownBlock = some w.heap.size) → K (a.put o.dst v') w') : if Region.wanted o (yielded ops a.tmps) = true then Oper.wp Try.prog o a w K Q else E := by
  rw [if_pos (by simp [Region.wanted, hgd])]
  exact wp_appRow w s x t ho ht v vs n hs hown g1 u hx hu hu1 hn h

/-- A message more was taken. -/
theorem REndV.newTook {w wa w3 : World} {g : Nat} {st : LS} {v1 v1' v4 v6 : Value} {hs : List (Nat × List Int)} {T : Nat → Prop} {vs : List Value} {p : Option Addr} {n c : Nat} {bs : List Int} (h : REndV w g st v1 v4 v6 hs T) (hF : st.Fine) (hwa : Below w.heap.size w wa)
    (h2 : ∀ i, i < st.took.length → ∃ p n c, vs[i]? = some (.slice p n c) ∧ BytG w p n c (st.took.getD i [])) (hvs : vs.length = st.took.length) (hbs : BytG wa p n c bs)
    (hown : w3.ownsRow 0 31 1 v1' (st.took.length + 1) (vs ++ [.slice p n c])) (hg : wa.grownBy w3 v1.ownBlock) (hv : v1'.ownBlock = v1.ownBlock ∨ v1'.ownBlock = some wa.heap.size) (hlen : st.took.length < 1073741824) (hbl : bs.length ≤ 1048576) :
    EndT11 REnd w g { st with took := st.took ++ [bs] } T (w3.setCell ⟨g, 1, none⟩ v1') := by
  have hold := h.old
  have hgl := h.lt
  have hs1 := hwa.size
  have hnb := h.notB
  obtain ⟨T', hT'⟩ : ∃ T' : Nat → Prop, T' = fun b => b = g ∨ v1'.ownBlock = some b ∨ v4.ownBlock = some b ∨ v6.ownBlock = some b := ⟨_, rfl⟩
  have t2 : ∀ b, T' b → T b ∨ w.heap.size ≤ b := fun b e => by
    rw [hT'] at e
    rcases e with e | e | e | e
    · exact .inl ((h.foot b).2 (.inl e))
    · rcases hv with k | k
      · exact .inl ((h.foot b).2 (.inr (.inl (k.symm.trans e))))
      · have := Option.some.inj (e.symm.trans k)
        exact .inr (by omega)
    · exact .inl ((h.foot b).2 (.inr (.inr (.inl e))))
    · exact .inl ((h.foot b).2 (.inr (.inr (.inr e))))
  have o1 : Only T wa w3 := Only.of_grown hg (fun b e => (h.foot b).2 (.inr (.inl e)))
  have o2 : Only (fun b => b = g) w3 (w3.setCell ⟨g, 1, none⟩ v1') := Only.of_grown (grown_set w3 g 1 v1') (fun b e => by cases e; rfl)
  have o12 : Only T wa (w3.setCell ⟨g, 1, none⟩ v1') := o1.trans o2 (fun q e => .inl ((h.foot q).2 (.inl e)))
  have o0 : Only T w (w3.setCell ⟨g, 1, none⟩ v1') := (Only.of_below (T := T) hwa).trans o12 (fun q e => .inl e)
  have nwa : ∀ b, T b → ¬ IsB wa b := fun b e => IsB.back (Only.of_below (T := fun _ => False) hwa) (hold b e) (fun q => q) (hnb b e)
  have hne1 : v1'.ownBlock ≠ some g := by
    rcases hv with k | k
    · rw [k]; exact h.apart.1.1
    · rw [k]
      intro e
      have := Option.some.inj e
      omega
  have hg3 : w3.heap[g]? = some (.cells (endCells st v1 v4 v6) 43 (0, 0)) := by
    rw [hg.block g (by omega) (fun e => h.apart.1.1 e.symm), hwa.block g hgl]
    exact h.heap
  have far : ∀ b, T b → b ≠ wa.heap.size := fun b e => by have := hold b e; omega
  have oo : ∀ u : Value, u.ownBlock ≠ some g → (∀ b, u.ownBlock = some b → v1.ownBlock ≠ some b) → Only (fun b => T b ∧ u.ownBlock ≠ some b) w (w3.setCell ⟨g, 1, none⟩ v1') := fun u u1 u2 => ⟨o0.os, o0.tape, o0.output, o0.size, fun b hb hn => by
    by_cases q : T b
    · have q4 : u.ownBlock = some b := Classical.byContradiction (fun q4 => hn ⟨q, q4⟩)
      have e1 : b ≠ g := fun e => u1 (by rw [q4, e])
      rw [o2.block b (by have := hg.size; omega) e1, hg.block b (by omega) (fun e => u2 b q4 e.symm), hwa.block b hb]
    · exact o0.block b hb q⟩
  have hF' : LS.Fine { st with took := st.took ++ [bs] } := ⟨hF.sure, by have := hF.sent; simp; omega, hF.win, hF.w16, hF.hold, hF.told⟩
  refine ⟨T', ⟨hF', v1', v4, v6, hs, ⟨?_, fun b => by rw [hT'], ⟨⟨hne1, h.apart.1.2⟩, fun b e => ?_, h.apart.2.2⟩, ?_, ?_, ?_, h.held, h.keys, ?_, ?_, ⟨fun L hL => ?_, h.short.2⟩⟩⟩, o0, t2⟩
  · rw [heap_setCell_same w3 g 1 _ _ v1' hg3]
    rfl
  · rcases hv with k | k
    · rw [k] at e
      exact h.apart.2.1 b e
    · have hb : b = wa.heap.size := Option.some.inj (e.symm.trans k)
      refine ⟨fun q => far b ((h.foot b).2 (.inr (.inr (.inl q)))) hb, fun q => far b ((h.foot b).2 (.inr (.inr (.inr q)))) hb⟩
  · refine RowB.snoc (vs := vs) (p := p) (n := n) (c := c) (World.ownsRow.kept hown (grown_set w3 g 1 v1') ?_) hvs (fun i hi => ?_) ?_
    · cases q : v1'.ownBlock with
      | none => exact .inl rfl
      | some k => exact .inr (by rw [← q]; exact hne1)
    · obtain ⟨p', n', c', e, hb⟩ := h2 i hi
      exact ⟨p', n', c', e, hb.only o0 hnb⟩
    · exact hbs.only o12 nwa
  · exact h.all.only (oo v4 h.apart.1.2.1 (fun b e q => (h.apart.2.1 b q).1 e)) (fun b e q => q.2 e) (fun b e => hnb b e.1)
  · exact h.hold.only (oo v6 h.apart.1.2.2 (fun b e q => (h.apart.2.1 b q).2 e)) (fun b e q => q.2 e) (fun b e => hnb b e.1)
  · exact hF'.loose
  · exact ⟨by simp; omega, h.few.2⟩
  · rcases List.mem_append.1 hL with k | k
    · exact h.short.1 L k
    · simp at k
      rw [k]
      exact hbl

theorem REndV.draw {w : World} {g : Nat} {st : LS} {v1 v4 v6 : Value} {hs : List (Nat × List Int)} {T : Nat → Prop} (h : REndV w g st v1 v4 v6 hs T) (w' : World) (hh : w'.heap = w.heap) (h1 : w'.os = w.os) (h2 : w'.tape = w.tape) (h3 : w'.output = w.output) : REndV w' g st v1 v4 v6 hs T ∧ Only T w w' := by
  have o : ∀ C : Nat → Prop, Only C w w' := fun C => ⟨h1, h2, h3, by rw [hh]; exact Nat.le_refl _, fun b _ _ => by rw [hh]⟩
  exact ⟨h.other (o (fun _ => False)) (fun _ e => e.elim) (fun _ e => e.elim), o T⟩
theorem rowOwn_below {w w' : World} {base : Nat} {e : TypeId} {size : Nat} {v : Value} {n : Nat} {xs : List Value} (h : w.ownsRow base e size v n xs) (hb : Below w.heap.size w w') : w'.ownsRow base e size v n xs := World.ownsRow.kept h (grown_of_below hb none) (by cases v.ownBlock <;> simp)
theorem row_slice {w : World} {base : Nat} {e : TypeId} {size : Nat} {v : Value} {n : Nat} {xs : List Value} (h : w.ownsRow base e size v n xs) : ∃ a c, v = .slice a n c := by
  rcases h.2 with ⟨rfl, rfl⟩ | ⟨g, cap, cur, rfl, _⟩
  · exact ⟨none, 0, rfl⟩
  · exact ⟨_, _, rfl⟩
theorem EndT11.from {At : World → Nat → LS → (Nat → Prop) → Prop} {w wz w' : World} {g : Nat} {st : LS} {T : Nat → Prop} (o : Only T w wz) (h : EndT11 At wz g st T w') : EndT11 At w g st T w' := by
  obtain ⟨T', h1, h2, h3⟩ := h
  have := o.size
  exact ⟨T', h1, o.trans h2 (fun b e => .inl e), fun b e => (h3 b e).imp id (fun k => by omega)⟩
theorem EndT11.none {At : World → Nat → LS → (Nat → Prop) → Prop} {w w' : World} {g : Nat} {st : LS} {T : Nat → Prop} (h : At w' g st T) (o : Only T w w') : EndT11 At w g st T w' := ⟨T, h, o, fun _ e => .inl e⟩

set_option maxRecDepth 20000 in
set_option maxHeartbeats 6400000 in
theorem r11send_any (g : Nat) (st : LS) (T : Nat → Prop) (a : Option Addr) (la ca : Nat) (body : List Int) (w : World) (h : REnd w g st T) (hb : Byts w a la ca body) (hnil : a = none → ca = 0) :
    Calls Try.prog 10 #[.pointer (some ⟨g, 0, none⟩), .slice a la ca] w fun e w' => e = .returned (.int .i64 (st.sendE body)) ∧ EndT11 REnd w g (st.send body) T w' := by
  have hE0 : EndT11 REnd w g st T w := EndT11.none h (Only.refl _ _)
  obtain ⟨hF, v1, v4, v6, hs, h⟩ := h
  have HF0 : Hid st.Fine := hF
  have hcap := hb.hcap
  have hmax := hb.hmax
  unfold maxLen at hmax
  have HL : Hid (body.length = la) := hb.hlen
  obtain ⟨E, hE⟩ : ∃ E, E = st.sendE body := ⟨_, rfl⟩
  obtain ⟨X, hX⟩ : ∃ X, X = st.send body := ⟨_, rfl⟩
  rw [← hE, ← hX]
  have HEX : Hid (E = st.sendE body ∧ X = st.send body) := ⟨hE, hX⟩
  clear hE hX
  have NOT : ∀ {z : Int}, st.sendE body = z → z ≠ 0 → Hid (E = z ∧ X = st) := fun h1 h2 => ⟨HEX.out.1.trans h1, by rw [HEX.out.2]; unfold LS.send; rw [if_neg (by rw [h1]; exact h2)]⟩
  by_cases l1 : 1048576 < la
  · have HR := NOT (z := 1) (by unfold LS.sendE; rw [if_pos (.inl (by rw [HL.out]; exact l1))]) (by decide)
    have l1d : decide ((1048576 : Int) < (la : Int)) = true := decide_eq_true (by omega)
    clear h hb NOT
    go_enter Try.func10, Try.ntmps10
    go_wp2
    go_ret
    exact ⟨ret_int HR.out.1.symm, by rw [HR.out.2]; exact hE0⟩
  have l1d : decide ((1048576 : Int) < (la : Int)) = false := decide_eq_false (by omega)
  obtain ⟨a1, k1, e1, hn1, hk1, hk2⟩ := h.took.slice
  have c1 : w.cell? ⟨g, 1, none⟩ = some v1 := h.cell 1
  have c2 : w.cell? ⟨g, 2, none⟩ = some (.int .i64 st.sure) := h.cell 2
  obtain ⟨n, hn⟩ : ∃ n, n = st.took.length := ⟨_, rfl⟩
  have hf := h.fine
  have s1 := hf.sure
  have s2 := hf.sent
  have s3 := h.few.1
  rw [← hn] at e1 s2 s3
  rw [e1] at c1
  have HN : Hid (n = st.took.length) := hn
  unfold maxLen at hk2
  by_cases l2 : 1073741824 ≤ n
  · have HR := NOT (z := 1) (by unfold LS.sendE; rw [if_pos (.inr (by rw [← HN.out]; exact l2))]) (by decide)
    have l2d : decide ((1073741824 : Int) ≤ (n : Int)) = true := decide_eq_true (by omega)
    clear h hb NOT hf hn hF
    go_enter Try.func10, Try.ntmps10
    go_wp2
    go_ret
    exact ⟨ret_int HR.out.1.symm, by rw [HR.out.2]; exact hE0⟩
  have l2d : decide ((1073741824 : Int) ≤ (n : Int)) = false := decide_eq_false (by omega)
  have hsub : IntKind.i64.wrap ((n : Int) - (st.sure : Int)) = (n : Int) - (st.sure : Int) := by simp [IntKind.wrap, IntKind.signed, IntKind.bits]; omega
  by_cases l3 : (64 : Int) ≤ (n : Int) - (st.sure : Int)
  · have HR := NOT (z := 15) (by unfold LS.sendE; rw [if_neg (by rw [HL.out, ← HN.out]; omega), if_pos (by rw [← HN.out]; omega)]) (by decide)
    have l3d : decide ((64 : Int) ≤ (n : Int) - (st.sure : Int)) = true := decide_eq_true l3
    have HD : Hid (∀ j, EndT11 REnd w g st T (w.drewN j)) := fun j => EndT11.none ⟨HF0.out, v1, v4, v6, hs, (h.draw (w.drewN j) rfl rfl rfl rfl).1⟩ (h.draw (w.drewN j) rfl rfl rfl rfl).2
    clear h hb NOT hf hn l3 hF
    go_enter Try.func10, Try.ntmps10
    go_wp2_with fail
    go_quiet (fail)
    go_wp2
    go_ret
    exact ⟨ret_int HR.out.1.symm, by rw [HR.out.2]; exact HD.out _⟩
  have l3d : decide ((64 : Int) ≤ (n : Int) - (st.sure : Int)) = false := decide_eq_false l3
  have HR : Hid (E = 0 ∧ X = { st with took := st.took ++ [body] }) := by
    have e0 : st.sendE body = 0 := by unfold LS.sendE; rw [if_neg (by rw [HL.out, ← HN.out]; omega), if_neg (by rw [← HN.out]; omega)]
    exact ⟨HEX.out.1.trans e0, by rw [HEX.out.2]; unfold LS.send; rw [if_pos e0]⟩
  clear NOT HEX hE0
  have HH : Hid (REndV w g st v1 v4 v6 hs T) := h
  clear h hf hn hF
  go_enter Try.func10, Try.ntmps10
  go_wp2_with fail
  go_quiet (fail)
  go_wp2_with fail
  generalize hwz : World.drewN w _ = wz
  have HZ : Hid (REndV wz g st v1 v4 v6 hs T ∧ Only T w wz) := by subst hwz; exact HH.out.draw _ rfl rfl rfl rfl
  have hbz : Byts wz a la ca body := by subst hwz; exact ⟨hb.hlen, hb.hcap, hb.hmax, hb.cells, hb.word⟩
  clear hwz HH hb c1 c2
  have z1 : wz.cell? ⟨g, 1, none⟩ = some (.slice a1 n k1) := by rw [← e1]; exact HZ.out.1.cell 1
  have hgz := HZ.out.1.lt
  have hgne : wz.heap.size ≠ g := by omega
  obtain ⟨vs, hv1, hv2⟩ := HZ.out.1.took
  rw [← HN.out, e1] at hv1
  have hvl : vs.length = n := by have := hv1.1; omega
  have HV : Hid (wz.ownsRow 0 31 1 (.slice a1 n k1) n vs ∧ vs.length = n ∧ ∀ i, i < st.took.length → ∃ p n c, vs[i]? = some (.slice p n c) ∧ BytG wz p n c (st.took.getD i [])) := ⟨hv1, hvl, hv2⟩
  have HB : Hid (Byts wz a la ca body ∧ Digs 256 body) := ⟨hbz, hbz.digs⟩
  clear hv1 hv2 hvl hbz
  have HC : Hid (∀ (w2 w3 : World) (o : Obj), Below wz.heap.size wz w2 → (w2.alloc o).grownBy w3 (Value.slice a1 n k1).ownBlock → w3.cell? ⟨g, 1, none⟩ = some (.slice a1 n k1) ∧ w3.frozen? ⟨g, 1, none⟩ = false) := fun w2 w3 o hb2 hg3 => by
    have hs2 := hb2.size
    have q3 : w3.heap[g]? = some (.cells (endCells st v1 v4 v6) 43 (0, 0)) := (hg3.block g (by simp; omega) (fun e => HZ.out.1.apart.1.1 (by rw [e1]; exact e.symm))).trans ((heap_alloc_old w2 _ (show g < w2.heap.size by omega)).trans ((hb2.block g hgz).trans HZ.out.1.heap))
    refine ⟨?_, frozen_of_row w3 g 1 _ _ q3⟩
    rw [cell_of_row w3 g 1 _ _ _ q3, ← e1]
    rfl
  go_region_law (first
    | (refine step_appBW _ (by rfl) _ _ 31 (by rfl) Try.underlying31 wz.heap.size _ [] (by rfl) (by first | exact BOwn.empty _ | exact BOwn.empty wz) a la ca body (by rfl) (by exact HB.out.1.below ⟨rfl, rfl, rfl, by simp, fun k hk => Below.heap_alloc _ _ _ hk⟩) hnil (by simp; omega) wz (by simp) (by exact ⟨rfl, rfl, rfl, by simp, fun k hk => Below.heap_alloc _ _ _ hk⟩) ?_; rintro v' w2 hown hb2 -; obtain ⟨pa, pn, pc, rfl, hP, hPb, hPn⟩ := hown.fresh (by simpa using HB.out.2); have z2 : w2.cell? ⟨g, 1, none⟩ = some (.slice a1 n k1) := (hb2.cell (p := ⟨g, 1, none⟩) hgz).trans z1; have z2a : ∀ o : Obj, (w2.alloc o).cell? ⟨g, 1, none⟩ = some (.slice a1 n k1) := fun o => by rw [World.cell?_alloc_lt _ _ _ (World.block_lt_of_cell? _ _ z2)]; exact z2)
    | (refine step_appRow _ (by rfl) _ _ 35 (by rfl) Try.underlying35 (.slice a1 n k1) vs n (by rfl) (by exact World.ownsRow.alloc (rowOwn_below HV.out.1 hb2) _) w2.heap.size (.slice pa pn pc) (by rfl) (by simp) (by rfl) (by omega) ?_; rintro v3 w3 hown3 hg3 hv3; obtain ⟨b3, k3, rfl⟩ := row_slice hown3; have z3 : w3.cell? ⟨g, 1, none⟩ = some (.slice a1 n k1) := (HC.out w2 w3 _ hb2 hg3).1; have f3 : w3.frozen? ⟨g, 1, none⟩ = false := (HC.out w2 w3 _ hb2 hg3).2))
  all_goals
    have hE := HZ.out.1.newTook HF0.out (wa := w2.alloc (.cells #[.slice pa pn pc] 31)) (bs := body) (bthen hb2 (balloc w2 _)) HV.out.2.2 (HV.out.2.1.trans HN.out) (by
      refine BytG.below (w := w2) ⟨(by simpa using hP : Byts w2 pa pn pc body), nil9 hPn, fun ad e h0 => ?_⟩ (balloc w2 _)
      obtain ⟨q, e2, hq, cur, hqc, -⟩ := hPb h0
      rw [e] at e2
      cases e2
      exact ⟨cur, hqc⟩) (by rw [← HN.out]; exact hown3) (by rw [e1]; exact hg3) (by rw [e1]; exact hv3) (by rw [← HN.out]; omega) (by rw [HL.out]; omega)
    have HF : Hid (EndT11 REnd w g X T (w3.setCell ⟨g, 1, none⟩ (.slice b3 (n + 1) k3))) := by
      show EndT11 _ _ _ _ _ _
      rw [HR.out.2]
      exact EndT11.from HZ.out.2 hE
    clear hE hown3 hg3 hv3 hP hPb hPn hown hb2
    go_wp2
    go_ret
    exact ⟨ret_int HR.out.1.symm, HF.out⟩
end Go.Proofs.Ytjokbikelklaiaa

namespace Go.Proofs.Ytjokbikelklaiaa
open Go.RowKit

/-- The bytes are nobody else's: they lie in blocks that are new. -/
structure BytN (B : Nat) (w : World) (a : Option Addr) (l c : Nat) (bs : List Int) : Prop extends BytG w a l c bs where
  new : ∀ ad, a = some ad → 0 < l → B ≤ ad.block
/-- What a call that tells the next message makes. -/
def NextT11 (At : World → Nat → LS → (Nat → Prop) → Prop) (w : World) (g : Nat) (st : LS) (T : Nat → Prop) (e : Ending) (w' : World) : Prop :=
  (st.all.length ≤ st.told ∧ e = .returned (.tuple #[.slice none 0 0, .bool false]) ∧ EndT11 At w g st T w') ∨
  (st.told < st.all.length ∧ ∃ p n c T', e = .returned (.tuple #[.slice p n c, .bool true]) ∧ At w' g { st with told := st.told + 1 } T' ∧ Only T w w' ∧ (∀ b, T' b → T b ∨ w.heap.size ≤ b) ∧ BytG w' p n c (st.all.getD st.told []))
theorem bown_new {w' : World} {base : Nat} {v : Value} {bs : List Int} (h : BOwn w' base v bs) (hd : Digs 256 bs) : ∃ p n c, v = .slice p n c ∧ BytN base w' p n c bs := by
  obtain ⟨pa, pn, pc, rfl, hP, hPb, hPn⟩ := h.fresh hd
  refine ⟨pa, pn, pc, rfl, ⟨⟨hP, nil9 hPn, fun ad e h0 => ?_⟩, fun ad e h0 => ?_⟩⟩
  · obtain ⟨q, e2, hq, cur, hqc, -⟩ := hPb h0
    rw [e] at e2
    cases e2
    exact ⟨cur, hqc⟩
  · obtain ⟨q, e2, hq, -⟩ := hPb h0
    rw [e] at e2
    cases e2
    exact hq

set_option maxRecDepth 20000 in
set_option maxHeartbeats 6400000 in
theorem r11next_any (g : Nat) (st : LS) (T : Nat → Prop) (w : World) (h : REnd w g st T) :
    Calls Try.prog 19 #[.pointer (some ⟨g, 0, none⟩)] w fun e w' => NextT11 REnd w g st T e w' := by
  obtain ⟨hF, v1, v4, v6, hs, h⟩ := h
  have HF0 : Hid st.Fine := hF
  obtain ⟨a4, k4, e4, hn4, hk4, hk5⟩ := h.all.slice
  have c4 : w.cell? ⟨g, 4, none⟩ = some v4 := h.cell 4
  have c5 : w.cell? ⟨g, 5, none⟩ = some (.int .i64 st.told) := h.cell 5
  obtain ⟨n, hn⟩ : ∃ n, n = st.all.length := ⟨_, rfl⟩
  obtain ⟨t, ht⟩ : ∃ t, t = st.told := ⟨_, rfl⟩
  have s1 := h.fine.told
  have s3 := h.few.2.1
  rw [← hn] at e4 s1 s3
  rw [← ht] at s1 c5
  rw [e4] at c4
  have HN : Hid (n = st.all.length ∧ t = st.told) := ⟨hn, ht⟩
  have HH : Hid (REndV w g st v1 v4 v6 hs T) := h
  clear hn ht h hF
  by_cases l1 : n ≤ t
  · have l1d : decide ((n : Int) ≤ (t : Int)) = true := decide_eq_true (by omega)
    have l1e : decide (n ≤ t) = true := decide_eq_true l1
    have HD : Hid (∀ j, NextT11 REnd w g st T (.returned (.tuple #[.slice none 0 0, .bool false])) (w.drewN j)) := fun j => .inl ⟨by rw [← HN.out.1, ← HN.out.2]; exact l1, rfl, EndT11.none ⟨HF0.out, v1, v4, v6, hs, (HH.out.draw (w.drewN j) rfl rfl rfl rfl).1⟩ (HH.out.draw (w.drewN j) rfl rfl rfl rfl).2⟩
    clear HH
    go_enter Try.func19, Try.ntmps19
    go_wp2_with fail
    go_quiet (fail)
    go_wp2
    go_ret2
    exact HD.out _
  have l1d : decide ((n : Int) ≤ (t : Int)) = false := decide_eq_false (by omega)
  have l1e : decide (n ≤ t) = false := decide_eq_false l1
  have hf5 : w.frozen? ⟨g, 5, none⟩ = false := HH.out.frozen 5
  have HP : Hid (∀ j, REndV ((w.drewN j).setCell ⟨g, 5, none⟩ (.int .i64 ((t : Int) + 1))) g { st with told := st.told + 1 } v1 v4 v6 hs T ∧ Only T w ((w.drewN j).setCell ⟨g, 5, none⟩ (.int .i64 ((t : Int) + 1)))) := fun j => by
    obtain ⟨k1, k2⟩ := HH.out.draw (w.drewN j) rfl rfl rfl rfl
    have hf := HF0.out
    obtain ⟨k3, k4⟩ := k1.put (st' := { st with told := st.told + 1 }) 5 (.int .i64 ((t : Int) + 1)) (by rw [HN.out.2]; rfl) rfl rfl rfl ⟨hf.sure, hf.sent, hf.win, hf.w16, by have := HN.out; show st.told + 1 ≤ st.all.length; omega⟩
    exact ⟨k3, k2.trans k4 (fun b e => .inl e)⟩
  go_enter Try.func19, Try.ntmps19
  go_wp2_with fail
  go_quiet (fail)
  go_wp2_with fail
  generalize hwy : World.setCell _ _ _ = wy
  have HY : Hid (REndV wy g { st with told := st.told + 1 } v1 v4 v6 hs T ∧ Only T w wy) := by subst hwy; exact HP.out _
  clear hwy HP HH c4 c5 hf5
  obtain ⟨gq, cap, p, m, c, q1, q2, q3⟩ := HY.out.1.all.at (i := t) (by have := HN.out; show t < st.all.length; omega)
  have q1' : Value.slice a4 n k4 = .slice (some ⟨gq, 0, none⟩) n cap := by rw [← e4, q1, HN.out.1]
  obtain ⟨rfl, -, rfl⟩ : a4 = some ⟨gq, 0, none⟩ ∧ n = n ∧ k4 = cap := by injection q1' with x1 x2 x3; exact ⟨x1, x2, x3⟩
  have y4 : wy.cell? ⟨g, 4, none⟩ = some (.slice (some ⟨gq, 0, none⟩) n k4) := by rw [← e4]; exact HY.out.1.cell 4
  have y5 : wy.cell? ⟨g, 5, none⟩ = some (.int .i64 ((t : Int) + 1)) := by
    have := HY.out.1.cell 5
    rw [this, HN.out.2]
    rfl
  have hgl := HY.out.1.lt
  have hql : gq < wy.heap.size := World.block_lt_of_cell? _ _ q2
  have hw1 : IntKind.i64.wrap ((t : Int) + 1 - 1) = (t : Int) := by
    rw [show (t : Int) + 1 - 1 = (t : Int) by omega]
    simp [IntKind.wrap, IntKind.signed, IntKind.bits]
    omega
  have hw2 : IntKind.i64.wrap (t : Int) = (t : Int) := by simp [IntKind.wrap, IntKind.signed, IntKind.bits]; omega
  have hw0 : (0 : Int) ≤ (t : Int) := by omega
  have hwn : (t : Int) < (n : Int) := by omega
  unfold maxLen at hk5
  have HB : Hid (BytG wy p m c (st.all.getD t []) ∧ m ≤ 140737488355300) := ⟨q3, by
    rw [← q3.byts.hlen]
    have ht : t < st.all.length := by have := HN.out; omega
    have := HY.out.1.short.2.1 (st.all.getD t []) (by simp [List.getD, ht])
    exact Nat.le_trans this (by decide)⟩
  have hm0 := HB.out.2
  have ne0 : wy.heap.size ≠ g := by omega
  have ne1 : wy.heap.size ≠ gq := by omega
  clear q1 q1' q3
  go_region_held3 (fun w' => w'.cell? ⟨g, 4, none⟩ = some (.slice (some ⟨gq, 0, none⟩) n k4) ∧ w'.cell? ⟨g, 5, none⟩ = some (.int .i64 ((t : Int) + 1)) ∧ w'.cell? ⟨gq, t, none⟩ = some (.slice p m c)) (first | go_keep | exact ⟨(hb2.cell (p := ⟨g, 4, none⟩) hgl).trans y4, (hb2.cell (p := ⟨g, 5, none⟩) hgl).trans y5, (hb2.cell (p := ⟨gq, t, none⟩) hql).trans q2⟩)
    ((refine step_appBW _ (by rfl) _ _ 31 (by rfl) Try.underlying31 wy.heap.size _ [] (by rfl) (by first | exact BOwn.empty _ | exact BOwn.empty wy) p m c (st.all.getD t []) (by rfl) (by exact HB.out.1.byts.below ⟨rfl, rfl, rfl, by simp, fun k hk => Below.heap_alloc _ _ _ hk⟩) HB.out.1.nil (by simp; omega) wy (by simp) (by exact ⟨rfl, rfl, rfl, by simp, fun k hk => Below.heap_alloc _ _ _ hk⟩) ?_; rintro v' w2 hown hb2 -))
  all_goals
    have hE : NextT11 REnd w g st T (.returned (.tuple #[v', .bool true])) w2 := by
      obtain ⟨pa, pn, pc, rfl, hN⟩ := bown_new hown (by simpa using HB.out.1.byts.digs)
      have hsz := HY.out.2.size
      refine .inr ⟨by have := HN.out; omega, pa, pn, pc, T, rfl, ?_, HY.out.2.trans (Only.of_below (T := T) hb2) (fun b e => .inl e), fun b e => .inl e, ?_⟩
      · exact ⟨⟨HF0.out.sure, HF0.out.sent, HF0.out.win, HF0.out.w16, HF0.out.hold, by have := HN.out; show st.told + 1 ≤ st.all.length; omega⟩, v1, _, v6, hs, HY.out.1.below hb2⟩
      · rw [← HN.out.2]
        simpa using hN.toBytG
    have HE : Hid (NextT11 REnd w g st T (.returned (.tuple #[v', .bool true])) w2) := hE
    clear hE hown hb2
    go_wp2
    go_ret2
    exact HE.out
end Go.Proofs.Ytjokbikelklaiaa

namespace Go.Proofs.Ytjokbikelklaiaa
open Go.RowKit

/-- The bytes are this frame's. -/
def IsFr (f : Fr11) (ys : List Int) : Prop := rightFr f.data f.seq f.ack f.body.length = true ∧ IsEnc f.data f.seq f.ack f.body ys
/-- The frames of an end may be. -/
theorem data_right {w : World} {g : Nat} {st : LS} {v1 v4 v6 : Value} {hs : List (Nat × List Int)} {T : Nat → Prop} (h : REndV w g st v1 v4 v6 hs T) {n : Nat} (hn : n < st.took.length) : rightFr true (n : Int) (st.all.length : Int) (st.took.getD n []).length = true := by
  have h1 := h.few
  have h2 := h.short.1 (st.took.getD n []) (by simp [List.getD, hn])
  exact (rightFr_iff _ _ _ _).2 ⟨by omega, by omega, by omega, by omega, h2, .inl rfl⟩
/-- What a call that tells a frame's bytes makes. -/
def FrT11 (f : Fr11) (w : World) (e : Ending) (w' : World) : Prop := ∃ p n c ys, e = .returned (.slice p n c) ∧ BytN w.heap.size w' p n c ys ∧ IsFr f ys ∧ Below w.heap.size w w'

set_option maxRecDepth 20000 in
set_option maxHeartbeats 6400000 in
theorem r11data_any (g i : Nat) (st : LS) (T : Nat → Prop) (w : World) (h : REnd w g st T) (hi : i < st.took.length) :
    Calls Try.prog 32 #[.pointer (some ⟨g, 0, none⟩), .int .i64 i] w fun e w' => FrT11 (st.data i) w e w' := by
  obtain ⟨-, v1, v4, v6, hs, h⟩ := h
  obtain ⟨a4, k4, e4, -, hk4, hk5⟩ := h.all.slice
  obtain ⟨gq, k1, p, m, c, e1, q2, q3⟩ := h.took.at hi
  have c4 : w.cell? ⟨g, 4, none⟩ = some v4 := h.cell 4
  have c1 : w.cell? ⟨g, 1, none⟩ = some v1 := h.cell 1
  have hr := data_right h hi
  obtain ⟨n, hn⟩ : ∃ n, n = st.all.length := ⟨_, rfl⟩
  obtain ⟨t, ht⟩ : ∃ t, t = st.took.length := ⟨_, rfl⟩
  have s1 := h.few
  rw [← hn, ← ht] at s1
  rw [← hn] at e4 hr
  rw [← ht] at e1 hi
  rw [e4] at c4
  rw [e1] at c1
  obtain ⟨bs, hbs⟩ : ∃ bs, bs = st.took.getD i [] := ⟨_, rfl⟩
  rw [← hbs] at hr q3
  have HD : Hid (st.data i = ⟨true, i, n, bs⟩ ∧ rightFr true (i : Int) (n : Int) bs.length = true) := ⟨by unfold LS.data; rw [hn, hbs], hr⟩
  have HB : Hid (BytG w p m c bs) := q3
  have hii : (i : Int) < (t : Int) := by omega
  have hi0 : (0 : Int) ≤ (i : Int) := by omega
  have hgl := h.lt
  have hql : gq < w.heap.size := World.block_lt_of_cell? _ _ q2
  have HEn : Hid (∀ wx : World, Below w.heap.size w wx → Calls Try.prog 33 #[.agg #[.bool true, .int .i64 i, .int .i64 n, .slice p m c]] wx fun e w' => ∃ za zl zc ze, e = .returned (.tuple #[.slice za zl zc, .int .i64 ze]) ∧ Hid (∃ ys, BytN w.heap.size w' za zl zc ys ∧ IsFr (st.data i) ys ∧ Below w.heap.size w w') ∧ (w'.cell? ⟨g, 4, none⟩ = some (.slice a4 n k4) ∧ w'.cell? ⟨g, 1, none⟩ = some (.slice (some ⟨gq, 0, none⟩) t k1) ∧ w'.cell? ⟨gq, i, none⟩ = some (.slice p m c))) := fun wx hbx => by
    refine (r10enc_any true i n p m c bs wx (HB.out.byts.below hbx) HB.out.nil).mono ?_
    rintro e w' ⟨za, zl, zc, ys, ze, rfl, hz, hres, ⟨zn, zf⟩, hb⟩
    have hb' := bthen hbx hb
    have hE : IsEnc true (i : Int) (n : Int) bs ys := by
      rcases hres with ⟨_, k, _⟩ | ⟨k, _, _⟩
      · exact k
      · rw [HD.out.2] at k; cases k
    refine ⟨za, zl, zc, ze, rfl, ⟨ys, ⟨⟨hz, zn, fun ad e h0 => (zf ad e h0).2⟩, fun ad e h0 => Nat.le_trans hbx.size (zf ad e h0).1⟩, ?_, hb'⟩, bkeep hb' c4 rfl, bkeep hb' c1 rfl, bkeep hb' q2 rfl⟩
    · unfold IsFr
      rw [HD.out.1]
      exact ⟨HD.out.2, hE⟩
  have HRB : Hid (Below w.heap.size w w) := Below.refl _ _
  clear h HB HD hr q3 hn ht hbs e1 e4 hk4 hk5
  go_enter Try.func32, Try.ntmps32
  go_wp2_with fail
  go_region_held3 (fun w' => w'.cell? ⟨g, 4, none⟩ = some (.slice a4 n k4) ∧ w'.cell? ⟨g, 1, none⟩ = some (.slice (some ⟨gq, 0, none⟩) t k1) ∧ w'.cell? ⟨gq, i, none⟩ = some (.slice p m c)) (first | go_keep | exact o6)
    (first
    | (go_at_call 33; with_reducible refine Calls.mono (HEn.out _ ?_) ?_; (focus (exact ⟨rfl, rfl, rfl, Nat.le_refl _, fun _ _ => rfl⟩)); rintro e w3 ⟨za, zl, zc, ze, rfl, hZ, o6⟩))
  all_goals
    clear HEn HRB
    go_wp2
    go_ret
    obtain ⟨ys, h1, h2, h3⟩ := hZ.out
    exact ⟨za, zl, zc, ys, rfl, h1, h2, h3⟩
end Go.Proofs.Ytjokbikelklaiaa

namespace Go.Proofs.Ytjokbikelklaiaa
open Go.RowKit

/-- A row of frames' bytes, the row from block B on. -/
def RowF (B : Nat) (w : World) (v : Value) (fs : List Fr11) : Prop := ∃ yss, RowB w v yss ∧ (∀ b, v.ownBlock = some b → B ≤ b) ∧ yss.length = fs.length ∧ ∀ i, i < fs.length → IsFr (fs.getD i ⟨false, 0, 0, []⟩) (yss.getD i [])
theorem RowF.nil (B : Nat) (w : World) : RowF B w (.slice none 0 0) [] := ⟨[], RowB.nil _, fun b e => by simp [Value.ownBlock] at e, rfl, fun i hi => absurd hi (by simp)⟩
theorem RowF.below {B : Nat} {w w' : World} {v : Value} {fs : List Fr11} (h : RowF B w v fs) (hb : Below w.heap.size w w') : RowF B w' v fs := by
  obtain ⟨yss, h1, h2⟩ := h
  exact ⟨yss, h1.only (Only.of_below (T := fun _ => False) hb) (fun _ _ e => e) (fun _ e => e.elim), h2⟩
theorem RowF.only {T : Nat → Prop} {B : Nat} {w w' : World} {v : Value} {fs : List Fr11} (h : RowF B w v fs) (k : Only T w w') (hT : ∀ b, T b → b < B) (hB : ∀ b, T b → ¬ IsB w b) : RowF B w' v fs := by
  obtain ⟨yss, h1, h2, h3⟩ := h
  exact ⟨yss, h1.only k (fun b e q => by have := h2 b e; have := hT b q; omega) hB, h2, h3⟩
theorem RowF.slice {B : Nat} {w : World} {v : Value} {fs : List Fr11} (h : RowF B w v fs) : ∃ a c, v = .slice a fs.length c ∧ fs.length ≤ c ∧ c ≤ maxLen := by
  obtain ⟨yss, h1, _, h3, _⟩ := h
  obtain ⟨a, c, e, _, h4, h5⟩ := h1.slice
  rw [h3] at e h4
  exact ⟨a, c, e, h4, h5⟩
/-- The row's own cells. -/
theorem RowF.own {B : Nat} {w : World} {v : Value} {fs : List Fr11} (h : RowF B w v fs) : ∃ vs, w.ownsRow 0 31 1 v fs.length vs ∧ ∀ (wa w3 : World) (v' : Value) (p : Option Addr) (n c : Nat) (ys : List Int) (f : Fr11), Below w.heap.size w wa → BytG wa p n c ys → IsFr f ys → w3.ownsRow 0 31 1 v' (fs.length + 1) (vs ++ [.slice p n c]) → wa.grownBy w3 v.ownBlock → (v'.ownBlock = v.ownBlock ∨ v'.ownBlock = some wa.heap.size) → B ≤ w.heap.size → RowF B w3 v' (fs ++ [f]) := by
  obtain ⟨yss, hR, h3, h4, h5⟩ := h
  have hnb := hR.notB
  have hlt := hR.lt
  obtain ⟨vs, h1, h2⟩ := hR
  rw [h4] at h1
  have hvs : vs.length = yss.length := by have := h1.1; omega
  refine ⟨vs, h1, fun wa w3 v' p n c ys f hwa hp hf hown hg hv hB => ?_⟩
  have hsz := hwa.size
  have o1 : Only (fun b => v.ownBlock = some b) wa w3 := Only.of_grown hg (fun b e => e)
  have nwa : ∀ b, v.ownBlock = some b → ¬ IsB wa b := fun b e => IsB.back (Only.of_below (T := fun _ => False) hwa) (hlt b e) (fun q => q) (hnb b e)
  refine ⟨yss ++ [ys], RowB.snoc (vs := vs) (p := p) (n := n) (c := c) (by rw [h4]; exact hown) hvs (fun i hi => ?_) ?_, fun b e => ?_, by simp [h4], fun i hi => ?_⟩
  · obtain ⟨p', n', c', e, hb⟩ := h2 i hi
    exact ⟨p', n', c', e, (hb.below hwa).only o1 nwa⟩
  · exact hp.only o1 nwa
  · rcases hv with k | k
    · exact h3 b (k.symm.trans e)
    · have := Option.some.inj (e.symm.trans k)
      omega
  · by_cases q : i < fs.length
    · rw [show (fs ++ [f]).getD i ⟨false, 0, 0, []⟩ = fs.getD i ⟨false, 0, 0, []⟩ by unfold List.getD; rw [List.getElem?_append_left q], show (yss ++ [ys]).getD i [] = yss.getD i [] by unfold List.getD; rw [List.getElem?_append_left (by omega)]]
      exact h5 i q
    · obtain rfl : i = fs.length := by simp at hi; omega
      rw [show (fs ++ [f]).getD fs.length ⟨false, 0, 0, []⟩ = f by simp [List.getD], show (yss ++ [ys]).getD fs.length [] = ys by rw [← h4]; simp [List.getD]]
      exact hf
theorem wpList_appRow (w : World) {ops : Array Oper} {rest : List Oper} {o : Oper} {a : Act} {Q : Exit → Act → World → Prop} (hgd : o.guard = none) (s x : Operand) (t : TypeId)
    (ho : o.op = .call { callee := .builtin .append, args := #[s, x], argTypes := #[t, t] }) (ht : Try.prog.underlying t = some (.slice 31))
    (v : Value) (vs : List Value) (n : Nat) (hs : a.eval s = v) (hown : w.ownsRow 0 31 1 v n vs) (g1 : Nat) (u : Value) (hx : a.eval x = .slice (some ⟨g1, 0, none⟩) 1 1) (hu : w.cell? ⟨g1, 0, none⟩ = some u) (hu1 : u.oneCell' = true) (hn : n ≤ 2147483648)
    (h : ∀ v' w', w'.ownsRow 0 31 1 v' (n + 1) (vs ++ [u]) → w.grownBy w' v.ownBlock → (v'.ownBlock = v.ownBlock ∨ v'.ownBlock = some w.heap.size) → wpList Try.prog ops Q rest (a.put o.dst v') w') : wpList Try.prog ops Q (o :: rest) a w :=
  wpList_plain hgd fun _ hK => wp_appRow w s x t ho ht v vs n hs hown g1 u hx hu hu1 hn fun v' w' h2 h3 h4 => hK _ _ (h v' w' h2 h3 h4)
/-- What a call that tells all frames that come out makes. -/
def OutT11 (At : World → Nat → LS → (Nat → Prop) → Prop) (w : World) (g : Nat) (st : LS) (T : Nat → Prop) (e : Ending) (w' : World) : Prop := ∃ v T', e = .returned v ∧ At w' g st.out T' ∧ Only T w w' ∧ (∀ b, T' b → T b ∨ w.heap.size ≤ b) ∧ RowF w.heap.size w' v st.outF ∧ ∀ b, v.ownBlock = some b → ¬ T' b
theorem range_snoc {a k : Nat} (h : a ≤ k) (x : LS) : (List.range' a (k + 1 - a)).map x.data = (List.range' a (k - a)).map x.data ++ [x.data k] := by
  rw [show k + 1 - a = (k - a) + 1 by omega, List.range'_concat]
  simp
  congr 1
  omega
end Go.Proofs.Ytjokbikelklaiaa

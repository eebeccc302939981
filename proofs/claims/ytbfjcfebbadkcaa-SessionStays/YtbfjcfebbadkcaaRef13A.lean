/-
  Contracts of the document's session: New, peer, end, State, Abort.
-/
import Derived.Test.YtbfjcfebbadkcaaS13Mem
import Derived.BigQuiet
namespace Go.Proofs.Ytbfjcfebbadkcaa
open Go.RowKit

/-- A number in the session is another one. -/
theorem RCur13.phase {w : World} {g : Nat} {cur : Array Value} {st : SS} {T : Nat → Prop} (h : RCur13 w g cur st T) (ph y : Nat) (hp : ph ≠ 0) : RCur13 ((w.setCell ⟨g, 4, none⟩ (.int .i64 (ph : Int))).setCell ⟨g, 5, none⟩ (.int .i64 (y : Int))) g ((cur.setIfInBounds 4 (.int .i64 (ph : Int))).setIfInBounds 5 (.int .i64 (y : Int))) (st.over ph y) T := by
  have hs := Array.getElem?_eq_some_iff.1 h.c5
  obtain ⟨hs, -⟩ := hs
  have k1 := heap_setCell_same w g 4 _ _ (.int .i64 (ph : Int)) h.heap
  have k2 := heap_setCell_same _ g 5 _ _ (.int .i64 (y : Int)) k1
  have key : ∀ j, j ≠ 4 → j ≠ 5 → ((cur.setIfInBounds 4 (.int .i64 (ph : Int))).setIfInBounds 5 (.int .i64 (y : Int)))[j]? = cur[j]? := fun j h4 h5 => by
    rw [Array.getElem?_setIfInBounds, if_neg (by omega), Array.getElem?_setIfInBounds, if_neg (by omega)]
  refine ⟨k2, (key 0 (by decide) (by decide)).trans h.c0, (key 1 (by decide) (by decide)).trans h.c1, (key 2 (by decide) (by decide)).trans h.c2, (key 3 (by decide) (by decide)).trans h.c3, ?_, ?_, fun p hq => ?_, h.gT, fun b e => ?_⟩
  · rw [Array.getElem?_setIfInBounds, if_neg (by decide), Array.getElem?_setIfInBounds, if_pos rfl, if_pos (by omega)]
    rfl
  · rw [Array.getElem?_setIfInBounds, if_pos rfl, if_pos (by simp; omega)]
    rfl
  · obtain ⟨b, t, a, l, c, e1, e2, e3, -⟩ := h.ws p hq
    exact ⟨b, t, a, l, c, (key _ (by omega) (by omega)).trans e1, (key _ (by omega) (by omega)).trans e2, (key _ (by omega) (by omega)).trans e3, fun e => absurd e hp⟩
  · have := h.old b e
    simp
    exact this
theorem only_set {w : World} {g j : Nat} {v : Value} {T : Nat → Prop} (hg : T g) : Only T w (w.setCell ⟨g, j, none⟩ v) := Only.of_grown (grown_set w g j v) (fun b e => by cases e; exact hg)
theorem RSes.end {w : World} {g : Nat} {st : SS} {T : Nat → Prop} (h : RSes w g st T) (ph y : Nat) (hp : ph ≠ 0) (hp2 : ph ≤ 2) (hy : y ≤ 1000) : SesT13 RSes w g (st.over ph y) T ((w.setCell ⟨g, 4, none⟩ (.int .i64 (ph : Int))).setCell ⟨g, 5, none⟩ (.int .i64 (y : Int))) := by
  obtain ⟨hF, cur, hc⟩ := h
  exact ⟨T, ⟨hF.over hp2 hy, _, hc.phase ph y hp⟩, Only.trans (only_set hc.gT) (only_set hc.gT) (fun _ e => .inl e), fun b e => .inl e⟩
set_option maxHeartbeats 1600000 in
theorem r13end_any (g : Nat) (st : SS) (T : Nat → Prop) (ph y : Int) (w : World) (h : ∃ cur, RCur13 w g cur st T) : Calls Try.prog 34 #[.pointer (some ⟨g, 0, none⟩), .int .i64 ph, .int .i64 y] w fun e w' => e = .returned (.tuple #[]) ∧ w' = (w.setCell ⟨g, 4, none⟩ (.int .i64 ph)).setCell ⟨g, 5, none⟩ (.int .i64 y) := by
  obtain ⟨cur, hc⟩ := h
  have c4 := (hc.cell 4).trans hc.c4
  have c5 := (hc.cell 5).trans hc.c5
  have f4 := hc.thaw 4
  have k1 := heap_setCell_same w g 4 _ _ (.int .i64 ph) hc.heap
  have f5 : (w.setCell ⟨g, 4, none⟩ (.int .i64 ph)).frozen? ⟨g, 5, none⟩ = false := frozen_of_row _ _ _ _ _ k1
  have d5 : (w.setCell ⟨g, 4, none⟩ (.int .i64 ph)).cell? ⟨g, 5, none⟩ = some (.int .i64 (st.why : Int)) := by
    rw [cell_of_row _ g 5 _ _ _ k1, Array.getElem?_setIfInBounds, if_neg (by decide)]
    exact hc.c5
  clear hc k1
  go_enter Try.func34, Try.ntmps34
  go_wp2
  go_end0
  exact ⟨rfl, rfl⟩
set_option maxHeartbeats 1600000 in
theorem r13peer_any (g : Nat) (st : SS) (T : Nat → Prop) (p : Int) (w : World) (h : RSes w g st T) : Calls Try.prog 31 #[.pointer (some ⟨g, 0, none⟩), .int .i64 p] w fun e w' => e = .returned (.bool (st.isPeer p)) ∧ w = w' := by
  obtain ⟨hF, cur, hc⟩ := h
  have c0 := (hc.cell 0).trans hc.c0
  have c1 := (hc.cell 1).trans hc.c1
  have HX : Hid (∀ q, q = st.isPeer p → st.isPeer p = q) := fun q e => e.symm
  obtain ⟨S, hS⟩ : ∃ S : Int, S = (st.self : Int) := ⟨_, rfl⟩
  obtain ⟨P, hP⟩ : ∃ P : Int, P = (st.parties : Int) := ⟨_, rfl⟩
  have HQ : Hid (st.isPeer p = (decide (0 ≤ p) && (decide (p < P) && (decide (p ≠ S) && (decide (S = 0) || decide (p = 0)))))) := by
    show _ = _
    unfold SS.isPeer
    rw [hS, hP]
    congr 4
    simp
  rw [← hS] at c0
  rw [← hP] at c1
  clear hc hF hS hP HX
  obtain ⟨Z, hZ⟩ : ∃ Z, Z = st.isPeer p := ⟨_, rfl⟩
  rw [← hZ] at HQ
  rw [← hZ]
  clear hZ
  go_enter Try.func31, Try.ntmps31
  by_cases h1 : 0 ≤ p
  case neg =>
    have d1 : decide (0 ≤ p) = false := decide_eq_false h1
    have HZ : Hid (Z = false) := by show _ = _; rw [HQ.out, d1]; rfl
    clear HQ h1
    go_wp2
    go_ret
    exact ⟨by rw [HZ.out]; rfl, rfl⟩
  have d1 : decide (0 ≤ p) = true := decide_eq_true h1
  by_cases h2 : p < P
  case neg =>
    have d2 : decide (p < P) = false := decide_eq_false h2
    have HZ : Hid (Z = false) := by show _ = _; rw [HQ.out, d1, d2]; rfl
    clear HQ h1 h2
    go_wp2
    go_ret
    exact ⟨by rw [HZ.out]; rfl, rfl⟩
  have d2 : decide (p < P) = true := decide_eq_true h2
  by_cases h3 : p = S
  case pos =>
    have HZ : Hid (Z = false) := by show _ = _; rw [HQ.out]; simp [h3]
    have d3 : (p != S) = false := by simp [h3]
    have d3e : (p == S) = true := by simp [h3]
    clear HQ h1 h2 h3
    go_wp2
    go_ret
    exact ⟨by rw [HZ.out]; rfl, rfl⟩
  have d3 : (p != S) = true := by simp [h3]
  have d3e : (p == S) = false := by simp [h3]
  by_cases h4 : S = 0
  case pos =>
    have HZ : Hid (Z = true) := by show _ = _; rw [HQ.out, d1, d2]; simp [h4]; omega
    have d4 : (S == 0) = true := by simp [h4]
    clear HQ h1 h2 h3 h4
    go_wp2
    go_ret
    exact ⟨by rw [HZ.out]; rfl, rfl⟩
  have d4 : (S == 0) = false := by simp [h4]
  by_cases h5 : p = 0
  case pos =>
    have HZ : Hid (Z = true) := by show _ = _; rw [HQ.out, d1, d2]; simp [h5]; omega
    have d5 : (p == 0) = true := by simp [h5]
    clear HQ h1 h2 h3 h4 h5
    go_wp2
    go_ret
    exact ⟨by rw [HZ.out]; rfl, rfl⟩
  have HZ : Hid (Z = false) := by show _ = _; rw [HQ.out, d1, d2]; simp [h4, h5]
  have d5 : (p == 0) = false := by simp [h5]
  clear HQ h1 h2 h3 h4 h5
  go_wp2
  go_ret
  exact ⟨by rw [HZ.out]; rfl, rfl⟩
set_option maxHeartbeats 1600000 in
theorem r13state_any (g : Nat) (st : SS) (T : Nat → Prop) (w : World) (h : RSes w g st T) : Calls Try.prog 10 #[.pointer (some ⟨g, 0, none⟩)] w fun e w' => e = .returned (.tuple #[.int .i64 (st.phase : Int), .int .i64 (st.why : Int)]) ∧ Below w.heap.size w w' := by
  obtain ⟨hF, cur, hc⟩ := h
  have c4 := (hc.cell 4).trans hc.c4
  have c5 := (hc.cell 5).trans hc.c5
  obtain ⟨x4, hx4⟩ : ∃ x : Int, x = (st.phase : Int) := ⟨_, rfl⟩
  obtain ⟨x5, hx5⟩ : ∃ x : Int, x = (st.why : Int) := ⟨_, rfl⟩
  rw [← hx4] at c4
  rw [← hx5] at c5
  rw [← hx4, ← hx5]
  clear hc hF hx4 hx5
  go_enter Try.func10, Try.ntmps10
  go_wp2_with fail
  go_quiet (fail)
  go_wp2
  go_ret2
  exact ⟨rfl, below_drewN (Below.refl _ _) _⟩
/-- The phase, as it is compared. -/
theorem phase_off {n : Nat} (h : n ≠ 0) : (((n : Int) != 0) = true) ∧ ((n : Int) == 0) = false := ⟨by simp [h], by simp [h]⟩
set_option maxHeartbeats 1600000 in
theorem r13abort_any (g : Nat) (st : SS) (T : Nat → Prop) (y : Int) (w : World) (h : RSes w g st T) : Calls Try.prog 23 #[.pointer (some ⟨g, 0, none⟩), .int .i64 y] w fun e w' => e = .returned (.int .i64 (st.abortE y)) ∧ SesT13 RSes w g (st.abort y) T w' := by
  have HR : Hid (RSes w g st T) := h
  have HC := (show Hid _ from r13end_any g st T 2 y w h.2)
  obtain ⟨hF, cur, hc⟩ := h
  have c4 := (hc.cell 4).trans hc.c4
  clear hF hc
  go_enter Try.func23, Try.ntmps23
  by_cases h0 : st.phase = 0
  case neg =>
    obtain ⟨k1, k2⟩ := phase_off h0
    have HE : Hid (st.abortE y = 17 ∧ st.abort y = st) := by
      have e : st.abortE y = 17 := by unfold SS.abortE; rw [if_pos h0]
      exact ⟨e, by unfold SS.abort; rw [e, if_neg (by decide)]⟩
    clear HC h0
    go_wp2
    go_ret
    exact ⟨by rw [HE.out.1]; rfl, by rw [HE.out.2]; exact SesT13.same rses_kept HR.out (Below.refl _ _)⟩
  have HE : Hid (st.abortE y = (if y < 1 ∨ 1000 < y then 1 else 0)) := by show _ = _; unfold SS.abortE; rw [if_neg (by omega)]
  rw [h0] at c4
  clear h0
  by_cases h1 : y < 1
  case pos =>
    have d1 : decide (y < 1) = true := decide_eq_true h1
    have HE2 : Hid (st.abortE y = 1 ∧ st.abort y = st) := by
      have e : st.abortE y = 1 := by rw [HE.out, if_pos (.inl h1)]
      exact ⟨e, by unfold SS.abort; rw [e, if_neg (by decide)]⟩
    clear HC h1 HE
    go_wp2
    go_ret
    exact ⟨by rw [HE2.out.1]; rfl, by rw [HE2.out.2]; exact SesT13.same rses_kept HR.out (Below.refl _ _)⟩
  have d1 : decide (y < 1) = false := decide_eq_false h1
  by_cases h2 : 1000 < y
  case pos =>
    have d2 : decide (1000 < y) = true := decide_eq_true h2
    have HE2 : Hid (st.abortE y = 1 ∧ st.abort y = st) := by
      have e : st.abortE y = 1 := by rw [HE.out, if_pos (.inr h2)]
      exact ⟨e, by unfold SS.abort; rw [e, if_neg (by decide)]⟩
    clear HC h1 h2 HE
    go_wp2
    go_ret
    exact ⟨by rw [HE2.out.1]; rfl, by rw [HE2.out.2]; exact SesT13.same rses_kept HR.out (Below.refl _ _)⟩
  have d2 : decide (1000 < y) = false := decide_eq_false h2
  have HE2 : Hid (st.abortE y = 0 ∧ st.abort y = st.over 2 y.toNat ∧ y = (y.toNat : Int) ∧ y.toNat ≤ 1000) := by
    have e : st.abortE y = 0 := by rw [HE.out, if_neg (by omega)]
    exact ⟨e, by unfold SS.abort; rw [e, if_pos rfl], by omega, by omega⟩
  clear h1 h2 HE
  go_wp2_with fail
  refine Calls.mono HC.out ?_
  rintro e w1 ⟨rfl, rfl⟩
  clear HC
  dsimp only
  go_wp2
  go_ret
  refine ⟨by rw [HE2.out.1]; rfl, ?_⟩
  have := HR.out.end 2 y.toNat (by decide) (by decide) HE2.out.2.2.2
  rw [← HE2.out.2.2.1] at this
  rw [HE2.out.2.1]
  exact this
theorem newOk_no {a b c : Int} (h : newOk a b c = true → False) : newOk a b c = false := by
  cases e : newOk a b c
  · rfl
  · exact (h e).elim
set_option maxHeartbeats 1600000 in
theorem r13new_any (a b c : Int) (w : World) : Calls Try.prog 7 #[.int .i64 a, .int .i64 b, .int .i64 c] w fun e w' => NewT13 RSes a b c w e w' := by
  have HI : Hid (newOk a b c = true ↔ 2 ≤ b ∧ b ≤ 16 ∧ 0 ≤ a ∧ a < b ∧ 1 ≤ c ∧ c ≤ 1073741824) := newOk_iff a b c
  go_enter Try.func7, Try.ntmps7
  by_cases h1 : b < 2
  case pos =>
    have d1 : decide (b < 2) = true := decide_eq_true h1
    have HZ : Hid (newOk a b c = false) := newOk_no (fun e => by have := HI.out.1 e; omega)
    clear HI h1
    go_wp2
    go_ret2
    exact .inl ⟨HZ.out, rfl, Below.refl _ _⟩
  have d1 : decide (b < 2) = false := decide_eq_false h1
  by_cases h2 : 16 < b
  case pos =>
    have d2 : decide (16 < b) = true := decide_eq_true h2
    have HZ : Hid (newOk a b c = false) := newOk_no (fun e => by have := HI.out.1 e; omega)
    clear HI h1 h2
    go_wp2
    go_ret2
    exact .inl ⟨HZ.out, rfl, Below.refl _ _⟩
  have d2 : decide (16 < b) = false := decide_eq_false h2
  by_cases h3 : a < 0
  case pos =>
    have d3 : decide (a < 0) = true := decide_eq_true h3
    have HZ : Hid (newOk a b c = false) := newOk_no (fun e => by have := HI.out.1 e; omega)
    clear HI h1 h2 h3
    go_wp2
    go_ret2
    exact .inl ⟨HZ.out, rfl, Below.refl _ _⟩
  have d3 : decide (a < 0) = false := decide_eq_false h3
  by_cases h4 : b ≤ a
  case pos =>
    have d4 : decide (b ≤ a) = true := decide_eq_true h4
    have HZ : Hid (newOk a b c = false) := newOk_no (fun e => by have := HI.out.1 e; omega)
    clear HI h1 h2 h3 h4
    go_wp2
    go_ret2
    exact .inl ⟨HZ.out, rfl, Below.refl _ _⟩
  have d4 : decide (b ≤ a) = false := decide_eq_false h4
  by_cases h5 : c < 1
  case pos =>
    have d5 : decide (c < 1) = true := decide_eq_true h5
    have HZ : Hid (newOk a b c = false) := newOk_no (fun e => by have := HI.out.1 e; omega)
    clear HI h1 h2 h3 h4 h5
    go_wp2
    go_ret2
    exact .inl ⟨HZ.out, rfl, Below.refl _ _⟩
  have d5 : decide (c < 1) = false := decide_eq_false h5
  by_cases h6 : 1073741824 < c
  case pos =>
    have d6 : decide (1073741824 < c) = true := decide_eq_true h6
    have HZ : Hid (newOk a b c = false) := newOk_no (fun e => by have := HI.out.1 e; omega)
    clear HI h1 h2 h3 h4 h5 h6
    go_wp2
    go_ret2
    exact .inl ⟨HZ.out, rfl, Below.refl _ _⟩
  have d6 : decide (1073741824 < c) = false := decide_eq_false h6
  have HO : Hid (newOk a b c = true ∧ a = (a.toNat : Int) ∧ b = (b.toNat : Int) ∧ c = (c.toNat : Int)) := ⟨HI.out.2 ⟨by omega, by omega, by omega, by omega, by omega, by omega⟩, by omega, by omega, by omega⟩
  clear HI h1 h2 h3 h4 h5 h6
  go_wp2
  go_ret2
  obtain ⟨h1, e1, e2, e3⟩ := HO.out
  refine .inr ⟨h1, w.heap.size, fun b => b = w.heap.size, rfl, ⟨SS.Fine.new h1, _, ⟨heap_alloc_new w _, ?_, ?_, ?_, rfl, rfl, rfl, fun p hp => ?_, rfl, fun b e => ?_⟩⟩, balloc w _, fun b e => Nat.le_of_eq e.symm⟩
  · show some (Value.int .i64 a) = some (Value.int .i64 ((a.toNat : Nat) : Int))
    rw [← e1]
  · show some (Value.int .i64 b) = some (Value.int .i64 ((b.toNat : Nat) : Int))
    rw [← e2]
  · show some (Value.int .i64 c) = some (Value.int .i64 ((c.toNat : Nat) : Int))
    rw [← e3]
  · have : p = 0 ∨ p = 1 ∨ p = 2 ∨ p = 3 ∨ p = 4 ∨ p = 5 ∨ p = 6 ∨ p = 7 ∨ p = 8 ∨ p = 9 ∨ p = 10 ∨ p = 11 ∨ p = 12 ∨ p = 13 ∨ p = 14 ∨ p = 15 := by omega
    rcases this with rfl | rfl | rfl | rfl | rfl | rfl | rfl | rfl | rfl | rfl | rfl | rfl | rfl | rfl | rfl | rfl <;> exact ⟨false, 0, none, 0, 0, rfl, rfl, rfl, fun _ => ⟨rfl, rfl, rfl, rfl⟩⟩
  · rw [e]
    simp
end Go.Proofs.Ytbfjcfebbadkcaa

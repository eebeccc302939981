/-
  The program's session: the contract of Tick.
-/
import Derived.Test.YtbfjcfebbadkcaaX13F
namespace Go.Proofs.Ytbfjcfebbadkcaa
open Go.RowKit

set_option maxHeartbeats 1600000 in
theorem p13end_raw {w : World} {g m : Nat} {st : SS} {T : Nat → Prop} (hh : w.heap[g]? = some (.cells (scells st m) 51 (0, 0))) (hwa : WaitsM w m st.waits) (foot : ∀ b, T b ↔ b = g ∨ b = m) (ph y : Nat) (hf : (st.over ph y).Fine) : Calls Try.prog 28 #[.pointer (some ⟨g, 0, none⟩), .int .i64 (ph : Int), .int .i64 (y : Int)] w fun e w' => e = .returned (.tuple #[]) ∧ PSesV w' g m (st.over ph y) T ∧ Only T w w' := by
  have apart : m ≠ g := fun e => by subst e; exact hwa.notRow hh
  have hlt : g < w.heap.size := (Array.getElem?_eq_some_iff.1 hh).1
  have c5 : w.cell? ⟨g, 5, none⟩ = some (.int .i64 (st.phase : Int)) := cell_of_row w g 5 _ _ _ hh
  have f5 := frozen_of_row w g 5 _ _ hh
  have k1 := heap_setCell_same w g 5 _ _ (.int .i64 (ph : Int)) hh
  have c6 : (w.setCell ⟨g, 5, none⟩ (.int .i64 (ph : Int))).cell? ⟨g, 6, none⟩ = some (.int .i64 (st.why : Int)) := by rw [cell_of_row _ g 6 _ _ _ k1]; rfl
  have f6 : (w.setCell ⟨g, 5, none⟩ (.int .i64 (ph : Int))).frozen? ⟨g, 6, none⟩ = false := frozen_of_row _ _ _ _ _ k1
  have k2 := heap_setCell_same _ g 6 _ _ (.int .i64 (y : Int)) k1
  have o1 : Only (fun b => b = g) w (w.setCell ⟨g, 5, none⟩ (.int .i64 (ph : Int))) := only_set (T := fun b => b = g) rfl
  have o2 : Only (fun b => b = g) w ((w.setCell ⟨g, 5, none⟩ (.int .i64 (ph : Int))).setCell ⟨g, 6, none⟩ (.int .i64 (y : Int))) := o1.trans (only_set (T := fun b => b = g) rfl) (fun _ e => .inl e)
  have c4 : ((w.setCell ⟨g, 5, none⟩ (.int .i64 (ph : Int))).setCell ⟨g, 6, none⟩ (.int .i64 (y : Int))).cell? ⟨g, 4, none⟩ = some (.map (some m)) := by rw [cell_of_row _ g 4 _ _ _ k2]; rfl
  have hw := hwa.only o2 (fun e => apart e)
  obtain ⟨W2, hW2⟩ : ∃ W2, W2 = (w.setCell ⟨g, 5, none⟩ (.int .i64 (ph : Int))).setCell ⟨g, 6, none⟩ (.int .i64 (y : Int)) := ⟨_, rfl⟩
  rw [← hW2] at k2 o2 hw c4
  obtain ⟨w3, r1, r2, r3⟩ := hw.clear
  have o3 : Only (fun b => b = m) W2 w3 := Only.of_grown r2 (fun b e => by cases e; rfl)
  have HF : Hid (PSesV w3 g m (st.over ph y) T ∧ Only T w w3) := by
    refine ⟨⟨?_, foot, r3, hf, fun p x e => (by cases e), fun _ p => rfl⟩, (o2.wide (fun b e => (foot b).2 (.inl e))).trans (o3.wide (fun b e => (foot b).2 (.inr e))) (fun _ e => .inl e)⟩
    rw [o3.block g (Nat.lt_of_lt_of_le hlt o2.size) (fun e => apart e.symm), k2]
    rfl
  have HW2 : Hid (W2 = (w.setCell ⟨g, 5, none⟩ (.int .i64 (ph : Int))).setCell ⟨g, 6, none⟩ (.int .i64 (y : Int))) := hW2
  rw [hW2] at r1 c4
  clear hh hwa apart hlt k1 k2 o1 o2 hw hW2 r2 r3 o3
  go_enter Try.func28, Try.ntmps28
  go_wp2
  go_end0
  exact ⟨rfl, HF.out⟩
theorem late_is {st : SS} (hp : ∀ p x, st.waits p = some x → p < st.parties) : st.late = true ↔ ∃ p x, st.waits p = some x ∧ x.1 + st.patience < st.now := by
  unfold SS.late
  rw [List.any_eq_true]
  constructor
  · rintro ⟨p, _, h⟩
    unfold SS.lateAt at h
    cases q : st.waits p with
    | none => rw [q] at h; cases h
    | some x =>
      rw [q] at h
      exact ⟨p, x, q, by simpa using h⟩
  · rintro ⟨p, x, h1, h2⟩
    refine ⟨p, List.mem_range.2 (hp p x h1), ?_⟩
    unfold SS.lateAt
    rw [h1]
    simpa using h2
set_option maxRecDepth 20000 in
set_option maxHeartbeats 3200000 in
theorem p13tick_any (g : Nat) (st : SS) (T : Nat → Prop) (n : Int) (w : World) (h : PSes w g st T) : Calls Try.prog 19 #[.pointer (some ⟨g, 0, none⟩), .int .i64 n] w fun e w' => e = .returned (.int .i64 (st.tickE n)) ∧ SesT13 PSes w g (st.tick n) T w' := by
  obtain ⟨m, h⟩ := h
  have HR := (show Hid _ from p13ref_any h)
  have H : Hid (PSesV w g m st T) := h
  by_cases h0 : st.phase = 0
  case neg =>
    have HE : Hid (st.tickE n = 17 ∧ st.tick n = st) := by
      unfold SS.tickE SS.tick
      rw [if_pos h0, if_pos h0]
      exact ⟨rfl, rfl⟩
    have HR2 : Hid (refE st.phase = 17) := by show _ = _; unfold refE; rw [if_pos h0]
    rw [HR2.out] at HR
    clear h0 HR2 h
    go_enter Try.func19, Try.ntmps19
    go_wp2_with fail
    refine Calls.mono HR.out ?_
    rintro e w1 ⟨rfl, rfl⟩
    go_wp2
    go_ret
    exact ⟨by rw [HE.out.1]; rfl, by rw [HE.out.2]; exact SesT13.on H.out (Only.refl _ _)⟩
  have HR2 : Hid (refE st.phase = 0) := by show _ = _; unfold refE; rw [if_neg (by omega)]
  rw [HR2.out] at HR
  have HE : Hid ((st.tickE n = if n < 1 ∨ 1073741824 - (st.now : Int) < n then 1 else if (st.later n).late = true then 19 else 0) ∧ (st.tick n = if n < 1 ∨ 1073741824 - (st.now : Int) < n then st else if (st.later n).late = true then (st.later n).over 2 19 else st.later n)) := by
    have hph : ¬ st.phase ≠ 0 := fun e => e h0
    unfold SS.tickE SS.tick
    rw [if_neg hph, if_neg hph]
    exact ⟨rfl, rfl⟩
  have H0 : Hid (st.phase = 0) := h0
  have c3 : w.cell? ⟨g, 3, none⟩ = some (.int .i64 (st.now : Int)) := h.cell 3
  have f3 := h.frozen 3
  have htim := h.fine.tim
  obtain ⟨t, ht⟩ : ∃ t, t = st.now := ⟨_, rfl⟩
  rw [← ht] at c3 htim
  have hsub : IntKind.i64.wrap (1073741824 - (t : Int)) = 1073741824 - (t : Int) := by simp [IntKind.wrap, IntKind.signed, IntKind.bits]; omega
  clear h0 HR2 h
  by_cases hn : n < 1
  · have hnd : decide (n < 1) = true := decide_eq_true hn
    have HE2 : Hid (st.tickE n = 1 ∧ st.tick n = st) := by
      have e := HE.out
      rw [if_pos (.inl hn), if_pos (.inl hn)] at e
      exact e
    clear HE hn ht
    go_enter Try.func19, Try.ntmps19
    go_wp2_with fail
    refine Calls.mono HR.out ?_
    rintro e w1 ⟨rfl, rfl⟩
    go_wp2
    go_ret
    exact ⟨by rw [HE2.out.1]; rfl, by rw [HE2.out.2]; exact SesT13.on H.out (Only.refl _ _)⟩
  have hnd : decide (n < 1) = false := decide_eq_false hn
  by_cases hm : 1073741824 - (t : Int) < n
  · have hmd : decide (1073741824 - (t : Int) < n) = true := decide_eq_true hm
    have HE2 : Hid (st.tickE n = 1 ∧ st.tick n = st) := by
      have e := HE.out
      rw [ht] at hm
      rw [if_pos (.inr hm), if_pos (.inr hm)] at e
      exact e
    clear HE hn ht hm
    go_enter Try.func19, Try.ntmps19
    go_wp2_with fail
    refine Calls.mono HR.out ?_
    rintro e w1 ⟨rfl, rfl⟩
    go_wp2
    go_ret
    exact ⟨by rw [HE2.out.1]; rfl, by rw [HE2.out.2]; exact SesT13.on H.out (Only.refl _ _)⟩
  have hmd : decide (1073741824 - (t : Int) < n) = false := decide_eq_false hm
  have HE2 : Hid ((st.tickE n = if (st.later n).late = true then 19 else 0) ∧ (st.tick n = if (st.later n).late = true then (st.later n).over 2 19 else st.later n)) := by
    have e := HE.out
    have hc : ¬ (n < 1 ∨ 1073741824 - (st.now : Int) < n) := by omega
    rw [if_neg hc, if_neg hc] at e
    exact e
  obtain ⟨d, rfl⟩ : ∃ d : Nat, n = (d : Int) := ⟨n.toNat, by omega⟩
  have hadd : IntKind.i64.wrap ((t : Int) + (d : Int)) = (t : Int) + (d : Int) := by simp [IntKind.wrap, IntKind.signed, IntKind.bits]; omega
  obtain ⟨s, hs⟩ : ∃ s, s = st.later (d : Int) := ⟨_, rfl⟩
  have hsn : s.now = t + d := by rw [hs, ht]; rfl
  have hW : (w.setCell ⟨g, 3, none⟩ (.int .i64 ((t : Int) + (d : Int)))).heap[g]? = some (.cells (scells s m) 51 (0, 0)) := by
    rw [heap_setCell_same w g 3 _ _ _ H.out.heap]
    unfold scells
    rw [hsn, hs]
    show some (Obj.cells #[_, _, _, .int .i64 ((t : Int) + (d : Int)), _, _, _] _ _) = some (Obj.cells #[_, _, _, .int .i64 ((t + d : Nat) : Int), _, _, _] _ _)
    rw [Int.natCast_add]
    rfl
  have hO : Only (fun b => b = g) w (w.setCell ⟨g, 3, none⟩ (.int .i64 ((t : Int) + (d : Int)))) := only_set (T := fun b => b = g) rfl
  have hwt : WaitsM (w.setCell ⟨g, 3, none⟩ (.int .i64 ((t : Int) + (d : Int)))) m s.waits := by
    rw [hs]
    exact H.out.waits.only hO (fun e => H.out.apart e)
  obtain ⟨W, hWe⟩ : ∃ W, W = w.setCell ⟨g, 3, none⟩ (.int .i64 ((t : Int) + (d : Int))) := ⟨_, rfl⟩
  have HW : Hid (W = w.setCell ⟨g, 3, none⟩ (.int .i64 ((t : Int) + (d : Int)))) := hWe
  rw [← hWe] at hW hO hwt
  have HL := (show Hid _ from p13late_any (ws := s.waits) (now := s.now) (pat := s.patience) hW rfl rfl rfl hwt (fun p x e => by rw [hs] at e; have := (H.out.fine.wai p x e).2.1; rw [hsn]; omega) (by rw [hsn]; omega))
  have HLi : Hid (s.late = true ↔ ∃ p x, s.waits p = some x ∧ x.1 + s.patience < s.now) := late_is (fun p x e => by rw [hs] at e ⊢; exact (H.out.fine.wai p x e).1)
  have HZ : Hid (∀ w', Below W.heap.size W w' → s.late = false → SesT13 PSes w g s T w') := fun w' hb hl => by
    have hf : s.Fine := by
      have := H.out.fine.tick (d : Int)
      rw [HE2.out.2, ← hs, if_neg (by rw [hl]; simp)] at this
      exact this
    have hv : PSesV W g m s T := ⟨hW, H.out.foot, hwt, hf, by rw [hs]; exact H.out.kinds, fun e => absurd (by rw [hs]; exact H0.out) e⟩
    exact SesT13.on (hv.below hb) ((hO.wide (fun b e => (H.out.foot b).2 (.inl e))).trans (Only.of_below hb) (fun _ e => .inl e))
  have hOT : Only T w W := hO.wide (fun b e => (H.out.foot b).2 (.inl e))
  have HY : Hid (∀ w', Below W.heap.size W w' → s.late = true → Calls Try.prog 28 #[.pointer (some ⟨g, 0, none⟩), .int .i64 2, .int .i64 19] w' fun e w2 => e = .returned (.tuple #[]) ∧ SesT13 PSes w g (s.over 2 19) T w2) := fun w' hb hl => by
    have hf : (s.over 2 19).Fine := by
      have := H.out.fine.tick (d : Int)
      rw [HE2.out.2, ← hs, if_pos hl] at this
      exact this
    have hlt : g < W.heap.size := (Array.getElem?_eq_some_iff.1 hW).1
    refine (p13end_raw (T := T) ((hb.block g hlt).trans hW) (hwt.block (hb.block m hwt.lt)) H.out.foot 2 19 hf).mono ?_
    rintro e w2 ⟨rfl, q1, q2⟩
    exact ⟨rfl, SesT13.on q1 (hOT.trans ((Only.of_below hb).trans q2 (fun _ e => .inl e)) (fun _ e => .inl e))⟩
  rw [← hs] at HE2
  clear hs hsn hW hO hwt hOT hWe HE hn hm ht
  go_enter Try.func19, Try.ntmps19
  go_wp2_with fail
  refine Calls.mono HR.out ?_
  rintro e w1 ⟨rfl, rfl⟩
  clear HR
  go_wp2_with fail
  rw [← HW.out]
  refine Calls.mono HL.out ?_
  rintro e w2 ⟨b, rfl, hb2, hbl⟩
  clear HL
  dsimp only
  cases b with
  | true =>
    have hl : s.late = true := HLi.out.2 (hb2.1 rfl)
    have HN := (show Hid _ from HY.out w2 hbl hl)
    have HE3 : Hid (st.tickE (d : Int) = 19 ∧ st.tick (d : Int) = s.over 2 19) := by
      have e := HE2.out
      rw [if_pos hl, if_pos hl] at e
      exact e
    clear HY HZ HLi hb2 hbl hl HE2
    go_wp2_with fail
    refine Calls.mono HN.out ?_
    rintro e w3 ⟨rfl, q⟩
    have HF : Hid (SesT13 PSes w1 g (s.over 2 19) T w3) := q
    clear q HN
    dsimp only
    go_wp2
    go_ret
    exact ⟨by rw [HE3.out.1]; rfl, by rw [HE3.out.2]; exact HF.out⟩
  | false =>
    have hl : s.late = false := by
      cases q : s.late with
      | false => rfl
      | true => have := hb2.2 (HLi.out.1 q); cases this
    have HF : Hid (SesT13 PSes w1 g s T w2) := HZ.out w2 hbl hl
    have HE3 : Hid (st.tickE (d : Int) = 0 ∧ st.tick (d : Int) = s) := by
      have e := HE2.out
      have hz : ¬ s.late = true := by rw [hl]; simp
      rw [if_neg hz, if_neg hz] at e
      exact e
    clear HY HZ HLi hb2 hbl hl HE2
    go_wp2
    go_ret
    exact ⟨by rw [HE3.out.1]; rfl, by rw [HE3.out.2]; exact HF.out⟩
end Go.Proofs.Ytbfjcfebbadkcaa

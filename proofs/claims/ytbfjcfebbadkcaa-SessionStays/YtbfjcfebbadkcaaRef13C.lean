/-
  Contracts of the document's session: Tick.
-/
import Derived.Test.YtbfjcfebbadkcaaRef13B
namespace Go.Proofs.Ytbfjcfebbadkcaa
open Go.RowKit

theorem RCur13.below {w w' : World} {g : Nat} {cur : Array Value} {st : SS} {T : Nat → Prop} (h : RCur13 w g cur st T) (hb : Below w.heap.size w w') : RCur13 w' g cur st T := ⟨(hb.block g (h.old g h.gT)).trans h.heap, h.c0, h.c1, h.c2, h.c3, h.c4, h.c5, fun p hp => by
    obtain ⟨b, t, a, l, c, e1, e2, e3, e4⟩ := h.ws p hp
    exact ⟨b, t, a, l, c, e1, e2, e3, fun hph => (e4 hph).only (Only.of_below (T := fun _ => False) hb) (fun q e => e.elim)⟩, h.gT, fun b e => Nat.lt_of_lt_of_le (h.old b e) hb.size⟩
theorem RCur13.time {w : World} {g : Nat} {cur : Array Value} {st : SS} {T : Nat → Prop} (h : RCur13 w g cur st T) (n : Nat) : RCur13 (w.setCell ⟨g, 3, none⟩ (.int .i64 (n : Int))) g (cur.setIfInBounds 3 (.int .i64 (n : Int))) { st with now := n } T := by
  obtain ⟨hs, -⟩ := Array.getElem?_eq_some_iff.1 h.c3
  have k1 := heap_setCell_same w g 3 _ _ (.int .i64 (n : Int)) h.heap
  have key : ∀ j, j ≠ 3 → (cur.setIfInBounds 3 (.int .i64 (n : Int)))[j]? = cur[j]? := fun j h4 => by
    rw [Array.getElem?_setIfInBounds, if_neg (by omega)]
  refine ⟨k1, (key 0 (by decide)).trans h.c0, (key 1 (by decide)).trans h.c1, (key 2 (by decide)).trans h.c2, ?_, (key 4 (by decide)).trans h.c4, (key 5 (by decide)).trans h.c5, fun p hq => ?_, h.gT, fun b e => ?_⟩
  · rw [Array.getElem?_setIfInBounds, if_pos rfl, if_pos hs]
  · obtain ⟨b, t, a, l, c, e1, e2, e3, e4⟩ := h.ws p hq
    exact ⟨b, t, a, l, c, (key _ (by omega)).trans e1, (key _ (by omega)).trans e2, (key _ (by omega)).trans e3, fun e => (e4 e).only (C := fun q => q = g) (only_set rfl) (fun q e => .inl e)⟩
  · have := h.old b e
    simp
    exact this
theorem late_iff {st : SS} {p : Nat} {b : Bool} {t : Int} {w : World} {g : Nat} {T : Nat → Prop} {a : Option Addr} {l c : Nat} (h : WOk13 w g T b t a l c (st.waits p)) : st.lateAt p = (b && decide ((st.patience : Int) < (st.now : Int) - t)) := by
  unfold SS.lateAt
  cases e : st.waits p with
  | none =>
    rw [e] at h
    rw [h.1]
    rfl
  | some x =>
    rw [e] at h
    rw [h.1, h.2.1]
    simp
    omega
theorem late_true {st : SS} {k : Nat} (hk : k < st.parties) (h : st.lateAt k = true) : st.late = true := List.any_eq_true.2 ⟨k, List.mem_range.2 hk, h⟩
theorem late_none {st : SS} (h : ∀ j, j < st.parties → st.lateAt j = false) : st.late = false := List.any_eq_false.2 fun x hx => by rw [h x (List.mem_range.1 hx)]; simp
set_option maxRecDepth 20000 in
set_option maxHeartbeats 6400000 in
theorem r13tick_any (g : Nat) (st : SS) (T : Nat → Prop) (n : Int) (w : World) (h : RSes w g st T) : Calls Try.prog 20 #[.pointer (some ⟨g, 0, none⟩), .int .i64 n] w fun e w' => e = .returned (.int .i64 (st.tickE n)) ∧ SesT13 RSes w g (st.tick n) T w' := by
  have HR : Hid (RSes w g st T) := h
  obtain ⟨hF, cur, hc⟩ := h
  have c3 := (hc.cell 3).trans hc.c3
  have c4 := (hc.cell 4).trans hc.c4
  have htim := hF.tim
  have hp16 := hF.par.2
  have f3 := hc.thaw 3
  by_cases h0 : st.phase = 0
  case neg =>
    obtain ⟨k1, k2⟩ := phase_off h0
    have HE : Hid (st.tickE n = 17 ∧ st.tick n = st) := ⟨by unfold SS.tickE; rw [if_pos h0], by unfold SS.tick; rw [if_pos h0]⟩
    clear h0 hc hF
    go_enter Try.func20, Try.ntmps20
    go_wp2
    go_ret
    exact ⟨by rw [HE.out.1]; rfl, by rw [HE.out.2]; exact SesT13.same rses_kept HR.out (Below.refl _ _)⟩
  have HE : Hid (st.tickE n = (if n < 1 ∨ 1073741824 - (st.now : Int) < n then 1 else if (st.later n).late = true then 19 else 0) ∧ st.tick n = (if n < 1 ∨ 1073741824 - (st.now : Int) < n then st else if (st.later n).late = true then (st.later n).over 2 19 else st.later n)) := ⟨by unfold SS.tickE; rw [if_neg (by omega)], by unfold SS.tick; rw [if_neg (by omega)]⟩
  have H0 : Hid (st.phase = 0 ∧ (st.later n).phase = 0) := ⟨h0, h0⟩
  rw [h0] at c4
  clear h0
  by_cases h1 : n < 1
  case pos =>
    have d1 : decide (n < 1) = true := decide_eq_true h1
    have HE2 : Hid (st.tickE n = 1 ∧ st.tick n = st) := ⟨by rw [HE.out.1, if_pos (.inl h1)], by rw [HE.out.2, if_pos (.inl h1)]⟩
    clear h1 HE hc hF
    go_enter Try.func20, Try.ntmps20
    go_wp2
    go_ret
    exact ⟨by rw [HE2.out.1]; rfl, by rw [HE2.out.2]; exact SesT13.same rses_kept HR.out (Below.refl _ _)⟩
  have d1 : decide (n < 1) = false := decide_eq_false h1
  by_cases h2 : 1073741824 - (st.now : Int) < n
  case pos =>
    have d2 : decide (1073741824 - (st.now : Int) < n) = true := decide_eq_true h2
    have HE2 : Hid (st.tickE n = 1 ∧ st.tick n = st) := ⟨by rw [HE.out.1, if_pos (.inr h2)], by rw [HE.out.2, if_pos (.inr h2)]⟩
    clear h1 h2 HE hc hF
    go_enter Try.func20, Try.ntmps20
    go_wp2
    go_ret
    exact ⟨by rw [HE2.out.1]; rfl, by rw [HE2.out.2]; exact SesT13.same rses_kept HR.out (Below.refl _ _)⟩
  have d2 : decide (1073741824 - (st.now : Int) < n) = false := decide_eq_false h2
  have HE2 : Hid (st.tickE n = (if (st.later n).late = true then 19 else 0) ∧ st.tick n = (if (st.later n).late = true then (st.later n).over 2 19 else st.later n)) := ⟨by rw [HE.out.1, if_neg (by omega)], by rw [HE.out.2, if_neg (by omega)]⟩
  obtain ⟨N, hN⟩ : ∃ N : Nat, N = st.now + n.toNat := ⟨_, rfl⟩
  have hNi : (st.now : Int) + n = (N : Int) := by omega
  have hNb : N ≤ 1073741824 := by omega
  have HN : Hid ((st.later n).now = N) := hN.symm
  have hc1 := hc.time N
  have HG : Hid (T g ∧ st.Fine) := ⟨hc.gT, hF⟩
  rw [hN] at hc1
  have HC1 : Hid (RCur13 (w.setCell ⟨g, 3, none⟩ (.int .i64 (N : Int))) g (cur.setIfInBounds 3 (.int .i64 (N : Int))) (st.later n) T) := by
    show RCur13 _ _ _ _ _
    rw [hN]
    exact hc1
  clear h1 h2 HE hc hF hc1 hN
  go_enter Try.func20, Try.ntmps20
  go_wp2
  go_loopw [5] (fun v5 wr => ∃ k : Nat, v5 = .int .i64 (k : Int) ∧ k ≤ st.parties ∧ Hid (∀ j, j < k → (st.later n).lateAt j = false) ∧ Hid (∃ cur, RCur13 wr g cur (st.later n) T) ∧ Hid (Only T w wr)) (fun v5 _ => st.parties - (intOf v5).toNat)
  case atStart => exact ⟨0, rfl, Nat.zero_le _, fun j hj => absurd hj (Nat.not_lt_zero _), ⟨_, HC1.out⟩, only_set HG.out.1⟩
  case round =>
    clear c3 c4 f3 HC1
    obtain ⟨k, rfl, hk, HJ, HC, HO⟩ := hrel
    have hcc := HC.out
    obtain ⟨cu, hcc⟩ := hcc
    have c1 : wr.cell? ⟨g, 1, none⟩ = some (.int .i64 (st.parties : Int)) := (hcc.cell 1).trans hcc.c1
    by_cases hlt : k < st.parties
    · have hk16 : (k : Int) < 16 := by omega
      have hk0 : (0 : Int) ≤ (k : Int) := by omega
      have hkd : decide (k < st.parties) = true := decide_eq_true hlt
      have c2 : wr.cell? ⟨g, 2, none⟩ = some (.int .i64 (st.patience : Int)) := (hcc.cell 2).trans hcc.c2
      have c3 : wr.cell? ⟨g, 3, none⟩ = some (.int .i64 (N : Int)) := by rw [← HN.out]; exact (hcc.cell 3).trans hcc.c3
      obtain ⟨b, t, a, l, c, w1, w2, -, hW, hbs⟩ := hcc.wait (p := k) (by omega) H0.out.2
      have HL : Hid ((st.later n).lateAt k = (b && decide ((st.patience : Int) < (N : Int) - t))) := by
        show _ = _
        rw [late_iff hW, HN.out]
        rfl
      have HT : Hid (k < st.parties) := hlt
      have htb : b = true → 0 ≤ t ∧ t ≤ 1073741824 := fun e => by
        cases ew : st.waits k with
        | none => rw [show (st.later n).waits k = st.waits k from rfl, ew] at hbs; rw [hbs] at e; cases e
        | some x =>
          rw [show (st.later n).waits k = st.waits k from rfl, ew] at hW
          have := (HG.out.2.wai k x ew).2.1
          have := hW.2.1
          omega
      clear hcc hW hbs hlt
      cases b with
      | false =>
        have HL2 : Hid ((st.later n).lateAt k = false) := HL.out
        clear HL htb
        go_wp2_with fail
        go_quiet (fail)
        go_wp2
        go_roundw
        case rel => exact ⟨k + 1, by go_num, HT.out, fun j hj => by
          by_cases e : j = k
          · rw [e]; exact HL2.out
          · exact HJ.out j (by omega), (by obtain ⟨cu, q⟩ := HC.out; exact ⟨cu, q.below (below_drewN (Below.refl _ _) _)⟩), Only.trans HO.out (Only.of_below (below_drewN (Below.refl _ _) _) (T := T)) (fun _ e => .inl e)⟩
        case measure => have := HT.out; simp [intOf]; omega
      | true =>
        obtain ⟨ht0, ht1⟩ := htb rfl
        clear htb
        by_cases hq : (st.patience : Int) < (N : Int) - t
        · have hqd : decide ((st.patience : Int) < (N : Int) - t) = true := decide_eq_true hq
          have HL2 : Hid ((st.later n).late = true) := late_true (st := st.later n) HT.out (by rw [HL.out, hqd]; rfl)
          clear HL hq
          go_wp2_with fail
          go_quiet (fail)
          have HCe : Hid (Calls Try.prog 34 #[.pointer (some ⟨g, 0, none⟩), .int .i64 2, .int .i64 19] (wr.drewN nq) fun e w' => e = .returned (.tuple #[]) ∧ w' = ((wr.drewN nq).setCell ⟨g, 4, none⟩ (.int .i64 2)).setCell ⟨g, 5, none⟩ (.int .i64 19)) := r13end_any g (st.later n) T 2 19 _ (by obtain ⟨cu, q⟩ := HC.out; exact ⟨cu, q.below (below_drewN (Below.refl _ _) _)⟩)
          go_wp2_with fail
          refine Calls.mono HCe.out ?_
          rintro e w3 ⟨rfl, rfl⟩
          clear HCe
          dsimp only
          go_wp2
          go_ret
          refine ⟨by rw [HE2.out.1, if_pos HL2.out]; rfl, ?_⟩
          have e : st.tick n = (st.later n).over 2 19 := by rw [HE2.out.2, if_pos HL2.out]
          have hFt := HG.out.2.tick n
          rw [e] at hFt ⊢
          obtain ⟨cu, q⟩ := HC.out
          exact ⟨T, ⟨hFt, _, (q.below (below_drewN (Below.refl _ _) nq)).phase 2 19 (by decide)⟩, Only.trans (Only.trans HO.out (Only.of_below (below_drewN (Below.refl _ _) nq) (T := T)) (fun _ e => .inl e)) (Only.trans (only_set HG.out.1) (only_set HG.out.1) (fun _ e => .inl e)) (fun _ e => .inl e), fun b e => .inl e⟩
        · have hqd : decide ((st.patience : Int) < (N : Int) - t) = false := decide_eq_false hq
          have HL2 : Hid ((st.later n).lateAt k = false) := by show _ = _; rw [HL.out, hqd]; rfl
          clear HL hq
          go_wp2_with fail
          go_quiet (fail)
          go_wp2
          go_roundw
          case rel => exact ⟨k + 1, by go_num, HT.out, fun j hj => by
            by_cases e : j = k
            · rw [e]; exact HL2.out
            · exact HJ.out j (by omega), (by obtain ⟨cu, q⟩ := HC.out; exact ⟨cu, q.below (below_drewN (Below.refl _ _) _)⟩), Only.trans HO.out (Only.of_below (below_drewN (Below.refl _ _) _) (T := T)) (fun _ e => .inl e)⟩
          case measure => have := HT.out; simp [intOf]; omega
    · have hkd : decide (k < st.parties) = false := decide_eq_false hlt
      have HL2 : Hid ((st.later n).late = false) := late_none (st := st.later n) (fun j hj => HJ.out j (by have : j < st.parties := hj; omega))
      clear hcc hlt
      go_wp2
      go_ret
      refine ⟨by rw [HE2.out.1, if_neg (by rw [HL2.out]; decide)]; rfl, ?_⟩
      have e : st.tick n = st.later n := by rw [HE2.out.2, if_neg (by rw [HL2.out]; decide)]
      have hFt := HG.out.2.tick n
      rw [e] at hFt ⊢
      exact ⟨T, ⟨hFt, HC.out⟩, HO.out, fun b e => .inl e⟩
end Go.Proofs.Ytbfjcfebbadkcaa

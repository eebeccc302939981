/-
  Contracts of the document's session: Who, Finish.
-/
import Derived.Test.YtbfjcfebbadkcaaRef13A
namespace Go.Proofs.Ytbfjcfebbadkcaa
open Go.RowKit

theorem RCur13.wait {w : World} {g : Nat} {cur : Array Value} {st : SS} {T : Nat → Prop} (h : RCur13 w g cur st T) {p : Nat} (hp : p < 16) (h0 : st.phase = 0) : ∃ b t a l c, w.cell? ⟨g, 6 + p * 3, none⟩ = some (.bool b) ∧ w.cell? ⟨g, 6 + p * 3 + 1, none⟩ = some (.int .i64 t) ∧ w.cell? ⟨g, 6 + p * 3 + 2, none⟩ = some (.slice a l c) ∧ WOk13 w g T b t a l c (st.waits p) ∧ b = (st.waits p).isSome := by
  obtain ⟨b, t, a, l, c, e1, e2, e3, e4⟩ := h.ws p hp
  have e5 := e4 h0
  refine ⟨b, t, a, l, c, (h.cell _).trans e1, (h.cell _).trans e2, (h.cell _).trans e3, e5, ?_⟩
  cases e : st.waits p with
  | none => rw [e] at e5; exact e5.1
  | some x => rw [e] at e5; exact e5.1
def whoTo (st : SS) (k : Nat) : List Nat := (List.range k).filter fun p => (st.waits p).isSome
theorem whoTo_next (st : SS) (k : Nat) : whoTo st (k + 1) = if (st.waits k).isSome = true then whoTo st k ++ [k] else whoTo st k := by
  unfold whoTo
  rw [List.range_succ, List.filter_append]
  split
  · rename_i h
    simp [h]
  · rename_i h
    simp [h]
theorem whoTo_len (st : SS) (k : Nat) : (whoTo st k).length ≤ k := Nat.le_trans (List.length_filter_le _ _) (by simp)
theorem ints_snoc (ns : List Nat) (k : Nat) : ints (ns ++ [k]) = ints ns ++ [(k : Int)] := by simp [ints]
theorem who_word {st : SS} (hF : st.Fine) : ∀ x, x ∈ ints st.who → -9223372036854775808 ≤ x ∧ x < 9223372036854775808 := fun x hx => by
  obtain ⟨n, hn, rfl⟩ := List.mem_map.1 hx
  have := SS.who_lt hn
  have := hF.par
  omega
set_option maxRecDepth 20000 in
set_option maxHeartbeats 3200000 in
theorem r13who_any (g : Nat) (st : SS) (T : Nat → Prop) (w : World) (h : RSes w g st T) : Calls Try.prog 13 #[.pointer (some ⟨g, 0, none⟩)] w fun e w' => WhoT13 st w e w' := by
  have HR : Hid (RSes w g st T) := h
  have hF := h.1
  have hp16 := hF.par.2
  have hp2 := hF.par.1
  by_cases h0 : st.phase = 0
  case neg =>
    obtain ⟨_, cur, hc⟩ := h
    have c1 := (hc.cell 1).trans hc.c1
    have c4 := (hc.cell 4).trans hc.c4
    obtain ⟨k1, k2⟩ := phase_off h0
    have HW : Hid (st.who = []) := SS.who_over h0
    have hpi : (0 : Int) < (st.parties : Int) := by omega
    have hpd : decide (0 < st.parties) = true := decide_eq_true (by omega)
    clear hc hF h0
    go_enter Try.func13, Try.ntmps13
    go_wp2
    go_loopw [3, 4] (fun v3 v4 wr => v3 = .slice none 0 0 ∧ v4 = .int .i64 0 ∧ wr = w) (fun _ _ _ => 0)
    case atStart => exact ⟨rfl, rfl, rfl⟩
    case round =>
      obtain ⟨rfl, rfl, rfl⟩ := hrel
      go_wp2
      go_ret
      refine ⟨none, 0, ?_, ?_, Below.refl _ _⟩
      · rw [HW.out]; rfl
      · rw [HW.out]; exact Lsts.nil _
  have HW : Hid (st.who = whoTo st st.parties ∧ st.Fine) := ⟨by unfold SS.who; rw [if_neg (by omega)]; rfl, hF⟩
  have H0 : Hid (st.phase = 0) := h0
  clear h hF h0
  go_enter Try.func13, Try.ntmps13
  go_wp2
  go_loopw [3, 4] (fun v3 v4 wr => ∃ k : Nat, v4 = .int .i64 (k : Int) ∧ k ≤ st.parties ∧ IOwn wr w.heap.size v3 (ints (whoTo st k)) ∧ Below w.heap.size w wr) (fun _ v4 _ => st.parties - (intOf v4).toNat)
  case atStart => exact ⟨0, rfl, Nat.zero_le _, IOwn.nil _ _, Below.refl _ _⟩
  case round =>
    obtain ⟨k, rfl, hk, hO, hb⟩ := hrel
    obtain ⟨_, cur, hc⟩ := rses_kept.below HR.out hb
    have c1 := (hc.cell 1).trans hc.c1
    have c4 := (hc.cell 4).trans hc.c4
    rw [H0.out] at c4
    have hl := whoTo_len st k
    by_cases hlt : k < st.parties
    · have hk16 : (k : Int) < 16 := by omega
      have hk0 : (0 : Int) ≤ (k : Int) := by omega
      have hkd : decide (k < st.parties) = true := decide_eq_true hlt
      obtain ⟨b, t, a, l, c, w1, -, -, -, hbs⟩ := hc.wait (p := k) (by omega) H0.out
      have HN : Hid (whoTo st (k + 1) = if b = true then whoTo st k ++ [k] else whoTo st k) := by show _ = _; rw [hbs]; exact whoTo_next st k
      have HL : Hid (k < st.parties) := hlt
      clear hc hbs hlt
      cases b with
      | false =>
        have HN2 : Hid (whoTo st (k + 1) = whoTo st k) := HN.out
        clear HN
        go_wp2
        go_roundw
        case rel => exact ⟨k + 1, by go_num, HL.out, by rw [HN2.out]; exact hO, hb⟩
        case measure => have := HL.out; simp [intOf]; omega
      | true =>
        have HN2 : Hid (whoTo st (k + 1) = whoTo st k ++ [k]) := HN.out
        have hlit := balloc wr (.cells #[.int .i64 (k : Int)] 3)
        have hO2 := hO.alloc (.cells #[.int .i64 (k : Int)] 3)
        have hlen : (ints (whoTo st k)).length < 1000000 := by rw [ints_len]; omega
        have HB : Hid (Below w.heap.size w (wr.alloc (.cells #[.int .i64 (k : Int)] 3))) := bthen hb hlit
        have hbs : w.heap.size ≤ (wr.alloc (.cells #[.int .i64 (k : Int)] 3)).heap.size := HB.out.size
        clear HN hO hb hlit hl
        go_wp2_with (at_builtin; refine wpList_appI1 _ rfl _ _ 32 rfl Try.underlying32 w.heap.size _ _ rfl hO2 ⟨wr.heap.size, 0, none⟩ (k : Int) rfl ?c1 hlen hbs ?_)
        case c1 => simp
        intro v5 w5 hO5 hg5
        have HB5 : Hid (Below w.heap.size w w5) := HB.out.trans ⟨hg5.os, hg5.tape, hg5.output, hg5.size, fun q hq => hg5.block q (Nat.lt_of_lt_of_le hq hbs) (fun e => by have := (World.ownsRow.lt hO2 q e.symm).1; omega)⟩
        have HO5 : Hid (IOwn w5 w.heap.size v5 (ints (whoTo st (k + 1)))) := by show IOwn _ _ _ _; rw [HN2.out, ints_snoc]; exact hO5
        clear hO2 hO5 hg5 HB hbs hlen c1 c4 w1
        go_wp2
        go_roundw
        case rel => exact ⟨k + 1, by go_num, HL.out, HO5.out, HB5.out⟩
        case measure => have := HL.out; simp [intOf]; omega
    · have hkd : decide (k < st.parties) = false := decide_eq_false hlt
      have HE : Hid (IOwn wr w.heap.size u3 (ints st.who) ∧ Below w.heap.size w wr) := by
        refine ⟨?_, hb⟩
        rw [HW.out.1, show st.parties = k by omega]
        exact hO
      clear hc hl hlt hO hb
      go_wp2
      go_ret
      obtain ⟨a, cp, e, hL, -⟩ := HE.out.1.lsts (who_word HW.out.2)
      rw [ints_len] at e hL
      exact ⟨a, cp, by rw [e]; rfl, hL, HE.out.2⟩
set_option maxHeartbeats 1600000 in
theorem r13finish_any (g : Nat) (st : SS) (T : Nat → Prop) (w : World) (h : RSes w g st T) : Calls Try.prog 22 #[.pointer (some ⟨g, 0, none⟩)] w fun e w' => e = .returned (.int .i64 st.finishE) ∧ SesT13 RSes w g st.finish T w' := by
  have HR : Hid (RSes w g st T) := h
  have HWo := (show Hid _ from r13who_any g st T w h)
  obtain ⟨hF, cur, hc⟩ := h
  have c4 := (hc.cell 4).trans hc.c4
  clear hF hc
  go_enter Try.func22, Try.ntmps22
  by_cases h0 : st.phase = 0
  case neg =>
    obtain ⟨k1, k2⟩ := phase_off h0
    have HE : Hid (st.finishE = 17 ∧ st.finish = st) := by
      have e : st.finishE = 17 := by unfold SS.finishE; rw [if_pos h0]
      exact ⟨e, by unfold SS.finish; rw [e, if_neg (by decide)]⟩
    clear HWo h0
    go_wp2
    go_ret
    exact ⟨by rw [HE.out.1]; rfl, by rw [HE.out.2]; exact SesT13.same rses_kept HR.out (Below.refl _ _)⟩
  have HE : Hid (st.finishE = (if st.who ≠ [] then 18 else 0)) := by show _ = _; unfold SS.finishE; rw [if_neg (by omega)]
  rw [h0] at c4
  clear h0
  go_wp2_with fail
  refine Calls.mono HWo.out ?_
  rintro e w1 ⟨a, c, rfl, hL, hb⟩
  obtain ⟨n, hn⟩ : ∃ n, n = st.who.length := ⟨_, rfl⟩
  rw [← hn] at hL
  rw [← hn]
  have HN : Hid (n = st.who.length) := hn
  have HR1 : Hid (RSes w1 g st T) := rses_kept.below HR.out hb
  have HB : Hid (Below w.heap.size w w1) := hb
  have hcap := hL.hcap
  have hmax := hL.hmax
  unfold maxLen at hmax
  clear HWo hL hb hn
  dsimp only
  by_cases hz : n = 0
  case neg =>
    have hzi : (0 : Int) < (n : Int) := by omega
    have hzd : decide (0 < n) = true := decide_eq_true (by omega)
    have HE2 : Hid (st.finishE = 18 ∧ st.finish = st) := by
      have e : st.finishE = 18 := by
        rw [HE.out, if_pos (fun e => by rw [HN.out, e] at hz; exact hz rfl)]
      exact ⟨e, by unfold SS.finish; rw [e, if_neg (by decide)]⟩
    clear HE hz
    go_wp2
    go_ret
    exact ⟨by rw [HE2.out.1]; rfl, by rw [HE2.out.2]; exact SesT13.same rses_kept HR.out HB.out⟩
  have HE2 : Hid (st.finishE = 0 ∧ st.finish = st.over 1 0) := by
    have e0 : st.who = [] := List.eq_nil_of_length_eq_zero (by rw [← HN.out]; exact hz)
    have e : st.finishE = 0 := by rw [HE.out, if_neg (fun q => q e0)]
    exact ⟨e, by unfold SS.finish; rw [e, if_pos rfl]⟩
  have HC := (show Hid _ from r13end_any g st T 1 0 w1 HR1.out.2)
  subst hz
  clear HE HN
  go_wp2_with fail
  refine Calls.mono HC.out ?_
  rintro e w2 ⟨rfl, rfl⟩
  clear HC
  dsimp only
  go_wp2
  go_ret
  refine ⟨by rw [HE2.out.1]; rfl, ?_⟩
  rw [HE2.out.2]
  obtain ⟨T', q1, q2, q3⟩ := HR1.out.end 1 0 (by decide) (by decide) (by decide)
  exact ⟨T', q1, Only.trans (Only.of_below HB.out) q2 (fun _ e => .inl e), fun b e => by
    rcases q3 b e with r | r
    · exact .inl r
    · exact .inr (Nat.le_trans HB.out.size r)⟩
end Go.Proofs.Ytbfjcfebbadkcaa

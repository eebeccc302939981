/-
  Contracts of the document's session: Take. The whole.
-/
import Derived.Test.YtbfjcfebbadkcaaRef13E
namespace Go.Proofs.Ytbfjcfebbadkcaa
open Go.RowKit

theorem mem_getD {ks : List Int} {j : Nat} (hj : j < ks.length) {k : Int} (h : ks.getD j 0 = k) : k ∈ ks := by
  rw [← h, show ks.getD j 0 = ks[j] by simp [List.getD, hj]]
  exact List.getElem_mem hj
theorem mem_not {ks : List Int} {k : Int} (h : ∀ j, j < ks.length → ks.getD j 0 ≠ k) : k ∉ ks := fun hk => by
  obtain ⟨j, hj, e⟩ := List.mem_iff_getElem.1 hk
  exact h j hj (by rw [← e]; simp [List.getD, hj])
theorem RSes.takes {w : World} {g : Nat} {st : SS} {T : Nat → Prop} (h : RSes w g st T) {p : Nat} (hp : p < 16) : SesT13 RSes w g (st.put p none) T (((w.setCell ⟨g, 6 + p * 3, none⟩ (.bool false)).setCell ⟨g, 6 + p * 3 + 1, none⟩ (.int .i64 0)).setCell ⟨g, 6 + p * 3 + 2, none⟩ (.slice none 0 0)) := by
  obtain ⟨hF, cur, hc⟩ := h
  obtain ⟨cur', hc'⟩ := hc.put (T' := T) (p := p) (b := false) (t := 0) (a := none) (l := 0) (c := 0) (x := none) hp (fun q e => e) hc.old (fun _ => ⟨rfl, rfl, rfl, rfl⟩)
  exact ⟨T, ⟨hF.put (fun y e => by cases e), cur', hc'⟩, Only.trans (Only.trans (only_set hc.gT) (only_set hc.gT) (fun _ e => .inl e)) (only_set hc.gT) (fun _ e => .inl e), fun b e => .inl e⟩
theorem SesT13.from {At : World → Nat → SS → (Nat → Prop) → Prop} {w wz w' : World} {g : Nat} {st : SS} {T : Nat → Prop} (hb : Below w.heap.size w wz) (h : SesT13 At wz g st T w') : SesT13 At w g st T w' := by
  obtain ⟨T', h1, h2, h3⟩ := h
  have := hb.size
  exact ⟨T', h1, (Only.of_below hb).trans h2 (fun b e => .inl e), fun b e => (h3 b e).imp id (fun k => by omega)⟩
set_option maxRecDepth 20000 in
set_option maxHeartbeats 6400000 in
theorem r13take_any (g : Nat) (st : SS) (T : Nat → Prop) (p k a b c : Int) (pi pr pn : Option Addr) (li ci lr cr ln cn : Nat) (w : World) (h : RSes w g st T) : Calls Try.prog 18 #[.pointer (some ⟨g, 0, none⟩), .int .i64 p, .agg #[.int .i64 k, .int .i64 a, .int .i64 b, .int .i64 c, .slice pi li ci, .slice pr lr cr, .slice pn ln cn]] w fun e w' => e = .returned (.int .i64 (st.takeE p k)) ∧ SesT13 RSes w g (st.take p k a) T w' := by
  have hV := balloc w (.cells #[.int .i64 k, .int .i64 a, .int .i64 b, .int .i64 c, .slice pi li ci, .slice pr lr cr, .slice pn ln cn] 54)
  obtain ⟨V, hVe⟩ : ∃ V, V = w.alloc (.cells #[.int .i64 k, .int .i64 a, .int .i64 b, .int .i64 c, .slice pi li ci, .slice pr lr cr, .slice pn ln cn] 54) := ⟨_, rfl⟩
  have HVe : Hid (V = w.alloc (.cells #[.int .i64 k, .int .i64 a, .int .i64 b, .int .i64 c, .slice pi li ci, .slice pr lr cr, .slice pn ln cn] 54)) := hVe
  obtain ⟨G, hG⟩ : ∃ G, G = w.heap.size := ⟨_, rfl⟩
  have m0 : V.cell? ⟨G, 0, none⟩ = some (.int .i64 k) := by rw [hVe, hG]; simp
  have m1 : V.cell? ⟨G, 1, none⟩ = some (.int .i64 a) := by rw [hVe, hG]; simp
  have HG : Hid (G = w.heap.size) := hG
  rw [← hVe] at hV
  have HB : Hid (Below w.heap.size w V) := hV
  have hR := rses_kept.below h hV
  have HR : Hid (RSes V g st T) := hR
  have HPe := (show Hid _ from r13peer_any g st T p V hR)
  clear h hV hVe hG
  obtain ⟨hF, cur, hc⟩ := hR
  have c4 := (hc.cell 4).trans hc.c4
  have hp16 := hF.par.2
  by_cases h0 : st.phase = 0
  case neg =>
    obtain ⟨k1, k2⟩ := phase_off h0
    have HE : Hid (st.takeE p k = 17 ∧ st.take p k a = st) := ⟨by unfold SS.takeE; rw [if_pos h0], by unfold SS.take; rw [if_pos h0]⟩
    clear h0 hc hF HPe
    go_enter Try.func18, Try.ntmps18
    go_upto_region 1 with fail
    rw [← HVe.out, ← HG.out]
    go_wp2
    go_ret
    exact ⟨by rw [HE.out.1]; rfl, by rw [HE.out.2]; exact SesT13.from HB.out (SesT13.same rses_kept HR.out (Below.refl _ _))⟩
  have H0 : Hid (st.phase = 0) := h0
  have e0 : st.takeE p k = (if st.isPeer p = false then 1 else if k = 11 then 0 else if st.takes p k = true then 0 else 18) := by unfold SS.takeE; rw [if_neg (by omega)]
  have s0 : st.take p k a = (if st.isPeer p = false then st else if k = 11 then st.over 2 (whyOf a) else if st.takes p k = true then st.put p.toNat none else st.over 2 18) := by unfold SS.take; rw [if_neg (by omega)]
  rw [h0] at c4
  clear h0
  cases hpe : st.isPeer p with
  | false =>
    have HE : Hid (st.takeE p k = 1 ∧ st.take p k a = st) := ⟨by rw [e0, if_pos hpe], by rw [s0, if_pos hpe]⟩
    rw [hpe] at HPe
    clear hc hF e0 s0 hpe
    go_enter Try.func18, Try.ntmps18
    go_upto_region 1 with fail
    rw [← HVe.out, ← HG.out]
    go_wp2_with fail
    refine Calls.mono HPe.out ?_
    rintro e w1 ⟨rfl, rfl⟩
    clear HPe
    dsimp only
    go_wp2
    go_ret
    exact ⟨by rw [HE.out.1]; rfl, by rw [HE.out.2]; exact SesT13.from HB.out (SesT13.same rses_kept HR.out (Below.refl _ _))⟩
  | true =>
  rw [hpe] at HPe
  rw [if_neg (by rw [hpe]; decide)] at e0 s0
  obtain ⟨hp0, hpp, -, -⟩ := (st.isPeer_iff p).1 hpe
  obtain ⟨P, rfl⟩ : ∃ P : Nat, p = (P : Int) := ⟨p.toNat, by omega⟩
  have hPp : P < st.parties := by omega
  clear hpe hp0 hpp
  by_cases hk : k = 11
  · rw [if_pos hk] at e0 s0
    subst hk
    have HE : Hid (st.takeE (P : Int) 11 = 0 ∧ st.take (P : Int) 11 a = st.over 2 (whyOf a)) := ⟨e0, s0⟩
    obtain ⟨Y, hY⟩ : ∃ Y : Nat, Y = whyOf a := ⟨_, rfl⟩
    have HY : Hid (Y = whyOf a) := hY
    have HCe := (show Hid _ from r13end_any g st T 2 (Y : Int) V HR.out.2)
    clear hc hF e0 s0
    go_enter Try.func18, Try.ntmps18
    go_upto_region 1 with fail
    rw [← HVe.out, ← HG.out]
    go_wp2_with fail
    refine Calls.mono HPe.out ?_
    rintro e w1 ⟨rfl, rfl⟩
    clear HPe
    dsimp only
    by_cases ha1 : 1 ≤ a
    case neg =>
      have d1 : decide (1 ≤ a) = false := decide_eq_false ha1
      obtain rfl : Y = 18 := by rw [hY]; unfold whyOf; rw [if_neg (by omega)]
      clear hY ha1
      go_wp2_with fail
      refine Calls.mono HCe.out ?_
      rintro e w1 ⟨rfl, rfl⟩
      clear HCe
      dsimp only
      go_wp2
      go_ret
      refine ⟨by rw [HE.out.1]; rfl, ?_⟩
      rw [HE.out.2, ← HY.out]
      exact SesT13.from HB.out (HR.out.end 2 18 (by decide) (by decide) (by decide))
    have d1 : decide (1 ≤ a) = true := decide_eq_true ha1
    by_cases ha2 : a ≤ 1000
    case neg =>
      have d2 : decide (a ≤ 1000) = false := decide_eq_false ha2
      obtain rfl : Y = 18 := by rw [hY]; unfold whyOf; rw [if_neg (by omega)]
      clear hY ha1 ha2
      go_wp2_with fail
      refine Calls.mono HCe.out ?_
      rintro e w1 ⟨rfl, rfl⟩
      clear HCe
      dsimp only
      go_wp2
      go_ret
      refine ⟨by rw [HE.out.1]; rfl, ?_⟩
      rw [HE.out.2, ← HY.out]
      exact SesT13.from HB.out (HR.out.end 2 18 (by decide) (by decide) (by decide))
    have d2 : decide (a ≤ 1000) = true := decide_eq_true ha2
    have hYa : a = (Y : Int) := by rw [hY]; unfold whyOf; rw [if_pos ⟨ha1, ha2⟩]; omega
    have HYl : Hid (Y ≤ 1000) := by show _ ≤ _; rw [hY]; exact whyOf_le a
    have HA : Hid (a = (Y : Int)) := hYa
    clear hY ha1 ha2
    rw [← hYa] at HCe
    clear hYa
    go_wp2_with fail
    refine Calls.mono HCe.out ?_
    rintro e w1 ⟨rfl, rfl⟩
    clear HCe
    dsimp only
    go_wp2
    go_ret
    refine ⟨by rw [HE.out.1]; rfl, ?_⟩
    rw [HE.out.2, ← HY.out]
    have := SesT13.from HB.out (HR.out.end 2 Y (by decide) (by decide) HYl.out)
    rw [← HA.out] at this
    exact this
  rw [if_neg hk] at e0 s0
  have hkd : (k == 11) = false := by simp [hk]
  have hP16 : (P : Int) < 16 := by omega
  have hP0 : (0 : Int) ≤ (P : Int) := by omega
  obtain ⟨bb, t, wa, wl, wc, q1, q2, q3, hW, hbs⟩ := hc.wait (p := P) (by omega) H0.out
  obtain ⟨ks, HKS⟩ : ∃ ks : List Int, Hid (wl = ks.length ∧ (0 < wl → bb = true) ∧ st.takes (P : Int) k = decide (k ∈ ks) ∧ Lsts V wa wl wc ks) := by
    cases ex : st.waits P with
    | none =>
      rw [ex] at hW
      obtain ⟨-, r1, r2, r3⟩ := hW
      subst r1 r2 r3
      exact ⟨[], rfl, fun e => absurd e (by omega), by unfold SS.takes; rw [show (P : Int).toNat = P from rfl, ex]; simp, Lsts.nil _⟩
    | some x =>
      rw [ex] at hW
      exact ⟨x.2, hW.2.2.1.hlen.symm, fun _ => hW.1, by unfold SS.takes; rw [show (P : Int).toNat = P from rfl, ex], hW.2.2.1⟩
  have hwc := HKS.out.2.2.2.hcap
  have hwm := HKS.out.2.2.2.hmax
  unfold maxLen at hwm
  have HC : Hid (RCur13 V g cur st T) := hc
  have HE0 : Hid (st.takeE (P : Int) k = (if st.takes (P : Int) k = true then 0 else 18) ∧ st.take (P : Int) k a = (if st.takes (P : Int) k = true then st.put P none else st.over 2 18)) := ⟨e0, s0⟩
  clear hc hF e0 s0 hW hbs hk
  go_enter Try.func18, Try.ntmps18
  go_upto_region 1 with fail
  rw [← HVe.out, ← HG.out]
  go_wp2_with fail
  refine Calls.mono HPe.out ?_
  rintro e w1 ⟨rfl, rfl⟩
  clear HPe c4
  dsimp only
  go_wp2
  go_loopw [9] (fun v9 wr => ∃ j : Nat, v9 = .int .i64 (j : Int) ∧ j ≤ wl ∧ Hid (∀ i, i < j → ks.getD i 0 ≠ k) ∧ Hid (Below V.heap.size V wr)) (fun v9 _ => wl - (intOf v9).toNat)
  case atStart => exact ⟨0, rfl, Nat.zero_le _, fun j hj => absurd hj (Nat.not_lt_zero _), Below.refl _ _⟩
  case round =>
    obtain ⟨j, rfl, hj, HJ, HBr⟩ := hrel
    replace q1 := bkeep HBr.out q1 rfl
    replace q2 := bkeep HBr.out q2 rfl
    replace q3 := bkeep HBr.out q3 rfl
    replace m0 := bkeep HBr.out m0 rfl
    have HRr : Hid (RSes wr g st T) := rses_kept.below HR.out HBr.out
    have HBw : Hid (Below w.heap.size w wr) := bthen HB.out HBr.out
    by_cases hlt : j < wl
    · obtain rfl : bb = true := HKS.out.2.1 (by omega)
      have hlti : (j : Int) < (wl : Int) := by omega
      have hltd : decide (j < wl) = true := decide_eq_true hlt
      have hj0 : (0 : Int) ≤ (j : Int) := by omega
      obtain ⟨kb, ko, rfl, hcell⟩ := (HKS.out.2.2.2.below HBr.out).cells (by omega)
      have ck := hcell j hlt
      obtain ⟨x, hx⟩ : ∃ x, x = ks.getD j 0 := ⟨_, rfl⟩
      rw [← hx] at ck
      have HX : Hid (x = ks.getD j 0) := hx
      have HT : Hid (j < wl) := hlt
      clear hx hcell hlt
      by_cases hxk : x = k
      · have HT2 : Hid (st.takes (P : Int) k = true) := by
          show _ = _
          rw [HKS.out.2.2.1]
          exact decide_eq_true (mem_getD (j := j) (by rw [← HKS.out.1]; exact HT.out) (by rw [← HX.out]; exact hxk))
        have dxk : (x == k) = true := by simp [hxk]
        have HE : Hid (st.takeE (P : Int) k = 0 ∧ st.take (P : Int) k a = st.put P none) := ⟨by rw [HE0.out.1, if_pos HT2.out], by rw [HE0.out.2, if_pos HT2.out]⟩
        obtain ⟨_, cu, hcu⟩ := HRr.out
        clear hxk HE0 HJ
        go_wp2_with fail
        go_quiet (fail)
        obtain ⟨b5, t5, a6, l6, c6, -, ⟨m0', n0⟩, ⟨m1', n1⟩, ⟨m2', n2⟩, -, -⟩ := put3_ok (w5 := wr.drewN nq) hcu hcu.heap (P := P) (by omega) (.bool false) (.int .i64 0)
        have HS : Hid (SesT13 RSes w g (st.put P none) T ((((wr.drewN nq).setCell ⟨g, 6 + P * 3, none⟩ (.bool false)).setCell ⟨g, 6 + P * 3 + 1, none⟩ (.int .i64 0)).setCell ⟨g, 6 + P * 3 + 2, none⟩ (.slice none 0 0))) := SesT13.from (below_drewN HBw.out nq) (RSes.takes (rses_kept.below HRr.out (below_drewN (Below.refl _ _) nq)) (by omega))
        clear hcu q1 q2 q3 m0 m1 ck
        go_wp2
        go_ret
        exact ⟨by rw [HE.out.1]; rfl, by rw [HE.out.2]; exact HS.out⟩
      · have dxk : (x == k) = false := by simp [hxk]
        have HJ2 : Hid (∀ i, i < j + 1 → ks.getD i 0 ≠ k) := fun i hi => by
          by_cases e : i = j
          · rw [e, ← HX.out]; exact hxk
          · exact HJ.out i (by omega)
        clear hxk HE0 HJ
        go_wp2_with fail
        go_quiet (fail)
        go_wp2
        go_roundw
        case rel => exact ⟨j + 1, by go_num, HT.out, HJ2.out, below_drewN HBr.out _⟩
        case measure => have := HT.out; simp [intOf]; omega
    · obtain rfl : j = wl := by omega
      have hltd : decide (j < j) = false := decide_eq_false (by omega)
      have HT2 : Hid (st.takes (P : Int) k = false) := by
        show _ = _
        rw [HKS.out.2.2.1]
        exact decide_eq_false (mem_not (by rw [← HKS.out.1]; exact HJ.out))
      have HE : Hid (st.takeE (P : Int) k = 18 ∧ st.take (P : Int) k a = st.over 2 18) := ⟨by rw [HE0.out.1, if_neg (by rw [HT2.out]; decide)], by rw [HE0.out.2, if_neg (by rw [HT2.out]; decide)]⟩
      have HCe := (show Hid _ from r13end_any g st T 2 18 wr HRr.out.2)
      clear HE0 HJ hlt
      go_wp2_with fail
      refine Calls.mono HCe.out ?_
      rintro e w1 ⟨rfl, rfl⟩
      clear HCe
      dsimp only
      go_wp2
      go_ret
      refine ⟨by rw [HE.out.1]; rfl, ?_⟩
      rw [HE.out.2]
      exact SesT13.from HBw.out (HRr.out.end 2 18 (by decide) (by decide) (by decide))
/-- The document's session does what a session does. -/
theorem rses_ok : SesOk13 ⟨7, 16, 18, 20, 22, 23, 10, 13⟩ RSes where
  toSesKept13 := rses_kept
  new := fun a b c w _ _ _ => r13new_any a b c w
  await := fun g st T p a l c ks w h _ hL _ hl => r13await_any g st T p a l c ks w h hL hl
  take := fun g st T p k a b c pi pr pn li ci lr cr ln cn w h _ _ _ => r13take_any g st T p k a b c pi pr pn li ci lr cr ln cn w h
  tick := fun g st T n w h _ => r13tick_any g st T n w h
  finish := r13finish_any
  abort := fun g st T y w h _ => r13abort_any g st T y w h
  state := r13state_any
  who := r13who_any
end Go.Proofs.Ytbfjcfebbadkcaa

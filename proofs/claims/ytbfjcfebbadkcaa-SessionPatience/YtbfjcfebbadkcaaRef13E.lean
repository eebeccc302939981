/-
  Contracts of the document's session: Await.
-/
import Derived.Test.YtbfjcfebbadkcaaRef13D
namespace Go.Proofs.Ytbfjcfebbadkcaa
open Go.RowKit

theorem row_slice13 {w : World} {base : Nat} {e : TypeId} {size : Nat} {v : Value} {n : Nat} {xs : List Value} (h : w.ownsRow base e size v n xs) : ∃ a c, v = .slice a n c := by
  rcases h.2 with ⟨rfl, rfl⟩ | ⟨g, cap, cur, rfl, _⟩
  · exact ⟨none, 0, rfl⟩
  · exact ⟨_, _, rfl⟩
/-- The three cells may be written. -/
theorem put3_ok {w w5 : World} {g : Nat} {cur : Array Value} {st : SS} {T : Nat → Prop} (hc : RCur13 w g cur st T) (hh : w5.heap[g]? = some (.cells cur 47 (0, 0))) {P : Nat} (hP : P < 16) (x y : Value) : ∃ b t a l c, w5.cell? ⟨g, 3, none⟩ = some (.int .i64 (st.now : Int)) ∧ (w5.cell? ⟨g, 6 + P * 3, none⟩ = some (.bool b) ∧ w5.frozen? ⟨g, 6 + P * 3, none⟩ = false) ∧ ((w5.setCell ⟨g, 6 + P * 3, none⟩ x).cell? ⟨g, 6 + P * 3 + 1, none⟩ = some (.int .i64 t) ∧ (w5.setCell ⟨g, 6 + P * 3, none⟩ x).frozen? ⟨g, 6 + P * 3 + 1, none⟩ = false) ∧ (((w5.setCell ⟨g, 6 + P * 3, none⟩ x).setCell ⟨g, 6 + P * 3 + 1, none⟩ y).cell? ⟨g, 6 + P * 3 + 2, none⟩ = some (.slice a l c) ∧ ((w5.setCell ⟨g, 6 + P * 3, none⟩ x).setCell ⟨g, 6 + P * 3 + 1, none⟩ y).frozen? ⟨g, 6 + P * 3 + 2, none⟩ = false) ∧ (w5.cell? ⟨g, 6 + P * 3 + 1, none⟩ = some (.int .i64 t) ∧ w5.frozen? ⟨g, 6 + P * 3 + 1, none⟩ = false) ∧ (w5.cell? ⟨g, 6 + P * 3 + 2, none⟩ = some (.slice a l c) ∧ w5.frozen? ⟨g, 6 + P * 3 + 2, none⟩ = false) := by
  obtain ⟨b, t, a, l, c, e1, e2, e3, -⟩ := hc.ws P hP
  have k1 := heap_setCell_same w5 g (6 + P * 3) _ _ x hh
  have k2 := heap_setCell_same _ g (6 + P * 3 + 1) _ _ y k1
  refine ⟨b, t, a, l, c, ?_, ⟨?_, frozen_of_row _ _ _ _ _ hh⟩, ⟨?_, frozen_of_row _ _ _ _ _ k1⟩, ⟨?_, frozen_of_row _ _ _ _ _ k2⟩, ⟨?_, frozen_of_row _ _ _ _ _ hh⟩, ⟨?_, frozen_of_row _ _ _ _ _ hh⟩⟩
  · rw [cell_of_row _ _ _ _ _ _ hh]; exact hc.c3
  · rw [cell_of_row _ _ _ _ _ _ hh]; exact e1
  · rw [cell_of_row _ _ _ _ _ _ k1, Array.getElem?_setIfInBounds, if_neg (by omega)]; exact e2
  · rw [cell_of_row _ _ _ _ _ _ k2, Array.getElem?_setIfInBounds, if_neg (by omega), Array.getElem?_setIfInBounds, if_neg (by omega)]; exact e3
  · rw [cell_of_row _ _ _ _ _ _ hh]; exact e2
  · rw [cell_of_row _ _ _ _ _ _ hh]; exact e3
set_option maxRecDepth 20000 in
set_option maxHeartbeats 6400000 in
theorem r13await_any (g : Nat) (st : SS) (T : Nat → Prop) (p : Int) (a : Option Addr) (l c : Nat) (ks : List Int) (w : World) (h : RSes w g st T) (hL : Lsts w a l c ks) (hl44 : l ≤ 17592186044416) : Calls Try.prog 16 #[.pointer (some ⟨g, 0, none⟩), .int .i64 p, .slice a l c] w fun e w' => e = .returned (.int .i64 (st.awaitE p ks)) ∧ SesT13 RSes w g (st.await p ks) T w' := by
  have HR : Hid (RSes w g st T) := h
  have HL : Hid (Lsts w a l c ks) := hL
  have HPe := (show Hid _ from r13peer_any g st T p w h)
  obtain ⟨hF, cur, hc⟩ := h
  have c4 := (hc.cell 4).trans hc.c4
  have hp16 := hF.par.2
  have hlen := hL.hlen
  have hcap := hL.hcap
  have hmax := hL.hmax
  unfold maxLen at hmax
  have HKL : Hid (ks.length = l) := hlen
  have nay : ∀ {z : Int}, st.awaitE p ks = z → z ≠ 0 → Hid (st.awaitE p ks = z ∧ st.await p ks = st) := fun h1 h2 => ⟨h1, by unfold SS.await; rw [h1, if_neg h2]⟩
  by_cases h0 : st.phase = 0
  case neg =>
    obtain ⟨k1, k2⟩ := phase_off h0
    have HE := nay (z := 17) (by unfold SS.awaitE; rw [if_pos h0]) (by decide)
    clear h0 hc hF nay hL HPe
    go_enter Try.func16, Try.ntmps16
    go_wp2
    go_ret
    exact ⟨by rw [HE.out.1]; rfl, by rw [HE.out.2]; exact SesT13.same rses_kept HR.out (Below.refl _ _)⟩
  have H0 : Hid (st.phase = 0) := h0
  have e0 : st.awaitE p ks = (if st.isPeer p = false then 1 else if ks.length = 0 then 1 else if kindsOk ks = false then 1 else if st.waitsFor p = true then 18 else 0) := by unfold SS.awaitE; rw [if_neg (by omega)]
  rw [h0] at c4
  clear h0
  cases hpe : st.isPeer p with
  | false =>
    have HE := nay (z := 1) (by rw [e0, if_pos hpe]) (by decide)
    rw [hpe] at HPe
    clear hc hF nay e0 hL hpe
    go_enter Try.func16, Try.ntmps16
    go_wp2_with fail
    refine Calls.mono HPe.out ?_
    rintro e w1 ⟨rfl, rfl⟩
    clear HPe
    dsimp only
    go_wp2
    go_ret
    exact ⟨by rw [HE.out.1]; rfl, by rw [HE.out.2]; exact SesT13.same rses_kept HR.out (Below.refl _ _)⟩
  | true =>
  rw [hpe] at HPe
  rw [if_neg (by rw [hpe]; decide)] at e0
  obtain ⟨hp0, hpp, -, -⟩ := (st.isPeer_iff p).1 hpe
  obtain ⟨P, rfl⟩ : ∃ P : Nat, p = (P : Int) := ⟨p.toNat, by omega⟩
  have hPp : P < st.parties := by omega
  clear hpe hp0 hpp
  by_cases hz : l = 0
  · have HE := nay (z := 1) (by rw [e0, if_pos (by omega)]) (by decide)
    subst hz
    clear hc hF nay e0 hL
    go_enter Try.func16, Try.ntmps16
    go_wp2_with fail
    refine Calls.mono HPe.out ?_
    rintro e w1 ⟨rfl, rfl⟩
    clear HPe
    dsimp only
    go_wp2
    go_ret
    exact ⟨by rw [HE.out.1]; rfl, by rw [HE.out.2]; exact SesT13.same rses_kept HR.out (Below.refl _ _)⟩
  rw [if_neg (by omega)] at e0
  have hzd : ((l : Int) == 0) = false := by simp; omega
  obtain ⟨ka, ko, rfl, hcell⟩ := hL.cells (by omega)
  have HCE : Hid (∀ i, i < l → w.cell? ⟨ka, ko + i, none⟩ = some (.int .i64 (ks.getD i 0))) := hcell
  have HNay := (show Hid _ from @nay)
  have HE0 : Hid (st.awaitE (P : Int) ks = if kindsOk ks = false then 1 else if st.waitsFor (P : Int) = true then 18 else 0) := e0
  have HC : Hid (RCur13 w g cur st T ∧ st.Fine) := ⟨hc, hF⟩
  clear hL hcell hc hF nay e0
  go_enter Try.func16, Try.ntmps16
  go_wp2_with fail
  refine Calls.mono HPe.out ?_
  rintro e w1 ⟨rfl, rfl⟩
  clear HPe c4
  dsimp only
  go_wp2
  go_loopw [8] (fun v8 wr => w = wr ∧ ∃ k : Nat, v8 = .int .i64 (k : Int) ∧ k ≤ l ∧ Hid (∀ j, j < k → 1 ≤ ks.getD j 0 ∧ ks.getD j 0 ≤ 11)) (fun v8 _ => l - (intOf v8).toNat)
  case atStart => exact ⟨rfl, 0, rfl, Nat.zero_le _, fun j hj => absurd hj (Nat.not_lt_zero _)⟩
  case round =>
    obtain ⟨rfl, k, rfl, hk, HJ⟩ := hrel
    by_cases hlt : k < l
    · have hlti : (k : Int) < (l : Int) := by omega
      have hk0 : (0 : Int) ≤ (k : Int) := by omega
      have ck := HCE.out k hlt
      obtain ⟨x, hx⟩ : ∃ x, x = ks.getD k 0 := ⟨_, rfl⟩
      rw [← hx] at ck
      have HX : Hid (x = ks.getD k 0) := hx
      clear hx
      by_cases x1 : x < 1
      · have d1 : decide (x < 1) = true := decide_eq_true x1
        have HE := HNay.out (z := 1) (by rw [HE0.out, if_pos (kindsOk_not (j := k) (by rw [HKL.out]; exact hlt) (.inl (by rw [← HX.out]; exact x1)))]) (by decide)
        clear x1 HJ HE0
        go_wp2
        go_ret
        exact ⟨by rw [HE.out.1]; rfl, by rw [HE.out.2]; exact SesT13.same rses_kept HR.out (Below.refl _ _)⟩
      have d1 : decide (x < 1) = false := decide_eq_false x1
      by_cases x2 : 11 < x
      · have d2 : decide (11 < x) = true := decide_eq_true x2
        have HE := HNay.out (z := 1) (by rw [HE0.out, if_pos (kindsOk_not (j := k) (by rw [HKL.out]; exact hlt) (.inr (by rw [← HX.out]; exact x2)))]) (by decide)
        clear x1 x2 HJ HE0
        go_wp2
        go_ret
        exact ⟨by rw [HE.out.1]; rfl, by rw [HE.out.2]; exact SesT13.same rses_kept HR.out (Below.refl _ _)⟩
      have d2 : decide (11 < x) = false := decide_eq_false x2
      have HJ2 : Hid (∀ j, j < k + 1 → 1 ≤ ks.getD j 0 ∧ ks.getD j 0 ≤ 11) := fun j hj => by
        by_cases e : j = k
        · rw [e, ← HX.out]
          omega
        · exact HJ.out j (by omega)
      have HT : Hid (k < l) := hlt
      clear x1 x2 HJ hlt
      go_wp2
      go_roundw
      case rel => exact ⟨by trivial, k + 1, by go_num, HT.out, HJ2.out⟩
      case measure => have := HT.out; simp [intOf]; omega
    · obtain rfl : k = l := by omega
      have hkd : decide (k < k) = false := decide_eq_false (by omega)
      have HE1 : Hid (st.awaitE (P : Int) ks = if st.waitsFor (P : Int) = true then 18 else 0) := by
        show _ = _
        rw [HE0.out, if_neg (by rw [kindsOk_all (by rw [HKL.out]; exact HJ.out)]; decide)]
      have hP16 : (P : Int) < 16 := by omega
      have hP0 : (0 : Int) ≤ (P : Int) := by omega
      obtain ⟨b, t, wa, wl, wc, q1, q2, q3, -, hbs⟩ := HC.out.1.wait (p := P) (by omega) H0.out
      have HB : Hid (st.waitsFor (P : Int) = b) := by
        show _ = _
        unfold SS.waitsFor
        rw [hbs]
        rfl
      clear hlt HJ HE0 hbs
      cases b with
      | true =>
        have HE := HNay.out (z := 18) (by rw [HE1.out, if_pos HB.out]) (by decide)
        clear HE1 HNay
        go_wp2
        go_ret
        exact ⟨by rw [HE.out.1]; rfl, by rw [HE.out.2]; exact SesT13.same rses_kept HR.out (Below.refl _ _)⟩
      | false =>
        have HE : Hid (st.awaitE (P : Int) ks = 0 ∧ st.await (P : Int) ks = st.put P (some (st.now, ks))) := by
          have e : st.awaitE (P : Int) ks = 0 := by rw [HE1.out, if_neg (by rw [HB.out]; decide)]
          exact ⟨e, by unfold SS.await; rw [if_pos e]; rfl⟩
        have HCW : Hid (∀ W : World, Below w.heap.size w W → ∀ j u, (ks.map (Value.int .i64))[j]? = some u → W.cell? ((⟨ka, ko, none⟩ : Addr).add j) = some u) := fun W hW j u hj => by
          have hjl : j < k := by
            have := (List.getElem?_eq_some_iff.1 hj).1
            simp at this
            rw [← HKL.out]
            exact this
          rw [Addr.add_lit, bkeep hW (HCE.out j hjl) rfl]
          rw [← hj, List.getElem?_map, List.getElem?_eq_getElem (by rw [HKL.out]; exact hjl)]
          simp [List.getD, HKL.out, hjl]
        have HGR : Hid (∀ (W w5 : World) (a5 : Option Addr) (l5 c5 : Nat), Below w.heap.size w W → W.grownBy w5 none → w5.ownsRow W.heap.size 3 1 (.slice a5 l5 c5) ks.length (ks.map (Value.int .i64)) → (w5.heap[g]? = some (.cells cur 47 (0, 0))) ∧ SesT13 RSes w g (st.await (P : Int) ks) T (((w5.setCell ⟨g, 6 + P * 3, none⟩ (.bool true)).setCell ⟨g, 6 + P * 3 + 1, none⟩ (.int .i64 (st.now : Int))).setCell ⟨g, 6 + P * 3 + 2, none⟩ (.slice a5 l5 c5))) := fun W w5 a5 l5 c5 hW hg5 ho5 => by
          have hb5 : Below w.heap.size w w5 := hW.trans ⟨hg5.os, hg5.tape, hg5.output, hg5.size, fun q hq => hg5.block q (Nat.lt_of_lt_of_le hq hW.size) (fun e => by cases e)⟩
          refine ⟨(hb5.block g (HC.out.1.old g HC.out.1.gT)).trans HC.out.1.heap, ?_⟩
          rw [HE.out.2]
          exact HR.out.waits hb5 ho5 hW.size HL.out.word hPp
        have c3 := (HC.out.1.cell 3).trans HC.out.1.c3
        have c3a : (w.alloc (.cells #[] 3)).cell? ⟨g, 3, none⟩ = some (.int .i64 (st.now : Int)) := bkeep (balloc w _) c3 rfl
        obtain ⟨i0, hi, hz0, hz1, hz2⟩ := info_parts Try.infoI
        have HSZ : Hid (0 < k ∧ k ≤ 17592186044416) := ⟨by omega, hl44⟩
        clear HE1 HNay HCE HB q2 q3 hz hzd hkd
        go_wp2_with fail
        go_region_law (refine step_append_grows rfl (.tmp 55) (.tmp 56) 32 rfl 3 i0 (.int .i64 0) 1 8 Try.underlying32 hi hz0 hz1 hz2 rfl (by decide) (some ⟨w.heap.size, 0, none⟩) 0 0 [] (by rfl) (fun e => ⟨rfl, rfl⟩) rfl (fun b e j u hj => by simp at hj) ⟨ka, ko, none⟩ k c (ks.map (Value.int .i64)) (by rfl) (by rw [List.length_map, HKL.out, Nat.mul_one]) (HCW.out _ (by repeat (first | exact Below.refl _ _ | refine bdr12 ?_ | refine bgr12 ?_ _))) (fun u hu => by obtain ⟨z, -, rfl⟩ := List.mem_map.1 hu; rfl) (by have := HSZ.out; omega) (by have := HSZ.out; unfold maxLen; omega) (by have := HSZ.out; omega) ?_; intro v5 w5 hown5 hg5; obtain ⟨a5, c5, rfl⟩ := row_slice13 hown5; obtain ⟨hh5, hses⟩ := HGR.out _ w5 a5 _ c5 (by repeat (first | exact Below.refl _ _ | refine bdr12 ?_ | refine bgr12 ?_ _)) hg5 (by rw [HKL.out]; simpa using hown5); obtain ⟨b5, t5, a6, l6, c6, m3, ⟨m0, n0⟩, ⟨m1, n1⟩, ⟨m2, n2⟩, -, -⟩ := put3_ok HC.out.1 hh5 (P := P) (by omega) (.bool true) (.int .i64 (st.now : Int)))
        all_goals
          have HS := (show Hid _ from hses)
          clear HCW HGR HC hses hown5 hg5 hh5 m0 m1 m2 m3 n0 n1 n2 c3 c3a q1 hi hz0 hz1 hz2 HL
          go_wp2
          go_ret
          refine ⟨by rw [HE.out.1]; rfl, ?_⟩
          first
            | exact HS.out
            | exact HS.out.drew
end Go.Proofs.Ytbfjcfebbadkcaa

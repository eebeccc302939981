/-
  The document's end of a link: the contract of Out.
-/
import Derived.Test.YtjokbikelklaiaaR11A
import Derived.Deep.Cut
import Derived.Deep.DeepCutAuto
namespace Go.Proofs.Ytjokbikelklaiaa
open Go.RowKit

/-- Of the old blocks only the end's own has turned. -/
theorem REndV.again {w w' : World} {g : Nat} {st st' : LS} {v1 v4 v6 : Value} {hs : List (Nat × List Int)} {T : Nat → Prop} (h : REndV w g st v1 v4 v6 hs T) (o : Only (fun b => b = g) w w') (hh : w'.heap[g]? = some (.cells (endCells st' v1 v4 v6) 43 (0, 0))) (h1 : st'.took = st.took) (h4 : st'.all = st.all) (h6 : st'.hold = st.hold) (hf : st'.Loose) : REndV w' g st' v1 v4 v6 hs T := by
  have hn : ∀ b, b = g → ¬ IsB w b := fun b e => h.notB b ((h.foot b).2 (.inl e))
  refine ⟨hh, h.foot, h.apart, ?_, ?_, ?_, by rw [h6]; exact h.held, h.keys, hf, by rw [h1, h4]; exact h.few, by rw [h1, h4]; exact h.short⟩
  · rw [h1]
    exact h.took.only o (fun b e q => h.apart.1.1 (by rw [e, q])) hn
  · rw [h4]
    exact h.all.only o (fun b e q => h.apart.1.2.1 (by rw [e, q])) hn
  · exact h.hold.only o (fun b e q => h.apart.1.2.2 (by rw [e, q])) hn

theorem out_end {w wt : World} {g k : Nat} {st : LS} {v1 v4 v6 : Value} {hs : List (Nat × List Int)} {T : Nat → Prop} {v : Value} (h : REndV w g st v1 v4 v6 hs T) (hF : st.Fine) (hh : wt.heap[g]? = some (.cells (endCells { st with sent := k } v1 v4 v6) 43 (0, 0))) (o : Only (fun q => q = g) w wt) (hk : k = st.due) (hr : RowF w.heap.size wt v st.outF) :
    OutT11 REnd w g st T (.returned v) ((wt.setCell ⟨g, 7, none⟩ (.bool false)).setCell ⟨g, 8, none⟩ (.bool false)) := by
  subst hk
  have hT : ∀ b, b = g → T b := fun b e => (h.foot b).2 (.inl e)
  have o7 : Only (fun q => q = g) wt (wt.setCell ⟨g, 7, none⟩ (.bool false)) := Only.of_grown (grown_set wt g 7 _) (fun b e => by cases e; rfl)
  have o8 : Only (fun q => q = g) (wt.setCell ⟨g, 7, none⟩ (.bool false)) ((wt.setCell ⟨g, 7, none⟩ (.bool false)).setCell ⟨g, 8, none⟩ (.bool false)) := Only.of_grown (grown_set _ g 8 _) (fun b e => by cases e; rfl)
  have o78 := o7.trans o8 (fun q e => .inl e)
  have h7 := heap_setCell_same wt g 7 _ _ (.bool false) hh
  have h8 := heap_setCell_same (wt.setCell ⟨g, 7, none⟩ (.bool false)) g 8 _ _ (.bool false) h7
  refine ⟨v, T, rfl, ⟨LS.out_fine hF, v1, v4, v6, hs, h.again (st' := st.out) (o.trans o78 (fun q e => .inl e)) (by rw [h8]; rfl) rfl rfl rfl (LS.out_fine hF).loose⟩, (o.trans o78 (fun q e => .inl e)).wide hT, fun b e => .inl e, hr.only o78 (fun b e => by rw [e]; exact h.lt) (fun b e => by rw [e]; exact IsB.not hh (by decide)), fun b e q => by
    obtain ⟨_, _, k, _⟩ := hr
    have := k b e
    have := h.old b q
    omega⟩

set_option maxRecDepth 20000 in
set_option maxHeartbeats 6400000 in
theorem r11out_any (g : Nat) (st : LS) (T : Nat → Prop) (w : World) (h : REnd w g st T) :
    Calls Try.prog 14 #[.pointer (some ⟨g, 0, none⟩)] w fun e w' => OutT11 REnd w g st T e w' := by
  have HH : Hid (REnd w g st T) := h
  obtain ⟨hF, v1, v4, v6, hs, h⟩ := h
  have HF0 : Hid st.Fine := hF
  have c8 : w.cell? ⟨g, 8, none⟩ = some (.bool st.tick) := h.cell 8
  have c2 : w.cell? ⟨g, 2, none⟩ = some (.int .i64 st.sure) := h.cell 2
  have c3 : w.cell? ⟨g, 3, none⟩ = some (.int .i64 st.sent) := h.cell 3
  have s1 := h.fine.sure
  have s2 := h.fine.sent
  have s3 := h.few.1
  have HV : Hid (REndV w g st v1 v4 v6 hs T) := h
  obtain ⟨a, ha⟩ : ∃ a, a = st.sure := ⟨_, rfl⟩
  obtain ⟨b, hb⟩ : ∃ b, b = st.sent := ⟨_, rfl⟩
  obtain ⟨tk, htk⟩ : ∃ tk, tk = st.tick := ⟨_, rfl⟩
  rw [← ha] at c2 s1
  rw [← hb] at c3 s1 s2
  rw [← htk] at c8
  have HA : Hid (a = st.sure ∧ b = st.sent ∧ tk = st.tick) := ⟨ha, hb, htk⟩
  obtain ⟨F, hF'⟩ : ∃ F : List Fr11, F = (List.range' st.from (st.sent - st.from)).map st.data := ⟨_, rfl⟩
  have HF : Hid (F = (List.range' st.from (st.sent - st.from)).map st.data) := hF'
  clear ha hb htk hF' hF h
  go_enter Try.func14, Try.ntmps14
  go_upto_if 10 with fail
  go_cut [3, 4] (fun v3 _ wx => RowF w.heap.size wx v3 F ∧ Below w.heap.size w wx)
  case first =>
    cases tk with
    | false =>
      have HF0 : Hid (F = []) := by
        show _ = _
        rw [HF.out]
        unfold LS.from
        rw [← HA.out.2.2, if_neg (by simp), Nat.sub_self]
        rfl
      go_wp2
      go_meet
      case rel => exact ⟨by rw [HF0.out]; exact RowF.nil _ _, Below.refl _ _⟩
    | true =>
      have HF1 : Hid (F = (List.range' a (b - a)).map st.data) := by
        show _ = _
        rw [HF.out]
        unfold LS.from
        rw [← HA.out.2.2, if_pos rfl, ← HA.out.1, ← HA.out.2.1]
      go_wp2_with fail
      go_loopw [3, 4] (fun v3 v4 wr => ∃ k : Nat, v4 = .int .i64 k ∧ (a ≤ k ∧ k ≤ b) ∧ RowF w.heap.size wr v3 ((List.range' a (k - a)).map st.data) ∧ Below w.heap.size w wr) (fun _ v4 _ => b - (intOf v4).toNat)
      case atStart => exact ⟨a, rfl, ⟨Nat.le_refl _, s1⟩, by rw [Nat.sub_self]; exact RowF.nil _ _, Below.refl _ _⟩
      case round =>
        obtain ⟨k, rfl, ⟨hk1, hk2⟩, hrow, hbr⟩ := hrel
        have d3 : wr.cell? ⟨g, 3, none⟩ = some (.int .i64 b) := (hbr.cell (World.block_lt_of_cell? _ _ c3)).trans c3
        have hsz := hbr.size
        by_cases hlt : k < b
        · have hlti : (k : Int) < (b : Int) := by omega
          have hE : REnd wr g st T := ⟨HF0.out, v1, v4, v6, hs, HV.out.below hbr⟩
          have HDa := (show Hid _ from r11data_any g k st T wr hE (by have := HA.out; omega))
          obtain ⟨vs, hvs, hnext⟩ := hrow.own
          have HNx : Hid _ := hnext
          have hl3 : ((List.range' a (k - a)).map st.data).length ≤ 2147483648 := by simp; omega
          have HR0 : Hid (∀ w' : World, Below wr.heap.size wr w' → ∀ o : Obj, (w'.alloc o).ownsRow 0 31 1 u3 ((List.range' a (k - a)).map st.data).length vs) := fun w' hb o => World.ownsRow.alloc (rowOwn_below hvs hb) _
          have HOw : Hid (∀ b, u3.ownBlock = some b → w.heap.size ≤ b) := by obtain ⟨_, _, q, _⟩ := hrow; exact q
          clear hE hnext hvs hrow
          go_wp2_with fail
          refine Calls.mono HDa.out ?_
          rintro e w2 ⟨p, n, c, ys, rfl, hN, hI, hb2⟩
          clear HDa
          go_wp2_with (at_builtin; refine wpList_appRow _ rfl _ _ 35 rfl Try.underlying35 u3 vs _ rfl (HR0.out w2 hb2 _) w2.heap.size (.slice p n c) rfl ?c1 rfl hl3 ?_)
          case c1 => simp
          intro v' w3 hown hg hv
          have hrow' := HNx.out _ w3 v' p n c ys (st.data k) (bthen hb2 (balloc w2 _)) (hN.toBytG.below (balloc w2 _)) hI (by rw [List.length_map, List.length_range']; exact hown) hg (by rw [World.size_alloc]; exact hv) hsz
          have hB3 : Below w.heap.size w w3 := ((hbr.trans (hb2.mono hbr.size)).alloc (by have := hb2.size; omega) _).grown hg (by have := hb2.size; simp; omega) HOw.out
          rw [← range_snoc hk1] at hrow'
          clear HNx HR0 HOw hown hg hv hN hI hb2 hbr
          go_wp2
          go_roundw
          case rel => exact ⟨k + 1, by go_num, ⟨by omega, by omega⟩, hrow', hB3⟩
          case measure => simp [intOf]; omega
        · obtain rfl : k = b := by omega
          go_wp2
          go_meet
          case rel => exact ⟨by rw [HF1.out]; exact hrow, hbr⟩
  case rest =>
    obtain ⟨hrow, hbc⟩ := hcut
    have hold := HV.out.old
    have HT : Hid (∀ b, T b → b < w.heap.size) := hold
    have hhc : wc.heap[g]? = some (.cells (endCells st v1 v4 v6) 43 (0, 0)) := (hbc.block g HV.out.lt).trans HV.out.heap
    have hOc : Only (fun q => q = g) w wc := Only.of_below hbc
    obtain ⟨a1, k1, e1, -, -, hk1⟩ := HV.out.took.slice
    obtain ⟨m, hm⟩ : ∃ m, m = st.took.length := ⟨_, rfl⟩
    obtain ⟨wn, hwn⟩ : ∃ wn, wn = st.win := ⟨_, rfl⟩
    have hw16 := HV.out.fine.w16
    rw [← hwn] at hw16
    rw [← hm] at e1 s2 s3
    have HM : Hid (m = st.took.length ∧ wn = st.win) := ⟨hm, hwn⟩
    have hfr : st.from ≤ b := by unfold LS.from; have := HA.out; split <;> omega
    have Hfr : Hid (st.from ≤ b) := hfr
    have hdue : Hid (st.due = max b (min m (a + wn))) := by show _ = _; unfold LS.due; have := HA.out; have := HM.out; simp only [*]
    clear c2 c3 c8 hold hm hwn hfr
    go_wp2_with fail
    have hgl := HV.out.lt
    have HG : Hid (T g) := (HV.out.foot g).2 (.inl rfl)
    unfold maxLen at hk1
    go_loopw [3] (fun v3 wr => ∃ k : Nat, (b ≤ k ∧ k ≤ max b (min m (a + wn))) ∧ Hid (wr.heap[g]? = some (.cells (endCells { st with sent := k } v1 v4 v6) 43 (0, 0))) ∧ RowF w.heap.size wr v3 ((List.range' st.from (k - st.from)).map st.data) ∧ Only (fun q => q = g) w wr) (fun _ wr => m - (intOf ((wr.cell? ⟨g, 3, none⟩).getD undef)).toNat)
    case atStart => exact ⟨b, ⟨Nat.le_refl _, by omega⟩, (by rw [HA.out.2.1]; exact hhc : _ = _), by rw [HA.out.2.1, ← HF.out]; exact hrow, hOc⟩
    case round =>
      clear hrow hbc hhc hOc
      obtain ⟨k, ⟨hk2, hk3⟩, HE, hrow, hO⟩ := hrel
      have hsz := hO.size
      have d3 : wr.cell? ⟨g, 3, none⟩ = some (.int .i64 k) := cell_of_row wr g 3 _ _ _ HE.out
      have d1 : wr.cell? ⟨g, 1, none⟩ = some (.slice a1 m k1) := by rw [← e1]; exact cell_of_row wr g 1 _ _ _ HE.out
      have d2 : wr.cell? ⟨g, 2, none⟩ = some (.int .i64 a) := by rw [HA.out.1]; exact cell_of_row wr g 2 _ _ _ HE.out
      have d0 : wr.cell? ⟨g, 0, none⟩ = some (.int .i64 wn) := by rw [HM.out.2]; exact cell_of_row wr g 0 _ _ _ HE.out
      have hsum : IntKind.i64.wrap ((a : Int) + (wn : Int)) = (a : Int) + (wn : Int) := by simp [IntKind.wrap, IntKind.signed, IntKind.bits]; omega
      have HFi : Hid (∀ j : Nat, j ≤ max b (min m (a + wn)) → b ≤ j → LS.Fine { st with sent := j }) := fun j hj hbj => by
        have hf := HF0.out
        have x1 := HA.out
        have x2 := HM.out
        have x3 := hf.win
        have x4 := hf.sent
        have x5 := hf.sure
        exact ⟨show st.sure ≤ j by omega, show j ≤ st.took.length by omega, show j ≤ st.sure + st.win by omega, hf.w16, hf.hold, hf.told⟩
      by_cases q1 : k < m
      · have q1d : decide ((k : Int) < (m : Int)) = true := decide_eq_true (by omega)
        have q1e : decide (k < m) = true := decide_eq_true q1
        by_cases q2 : k < a + wn
        · have q2d : decide ((k : Int) < (a : Int) + (wn : Int)) = true := decide_eq_true (by omega)
          go_wp2_with fail
          go_quiet (fail)
          go_wp2_with fail
          have hE : REnd (wr.drewN nq) g { st with sent := k } T := ⟨HFi.out k hk3 hk2, v1, v4, v6, hs, HV.out.again (st' := { st with sent := k }) (w' := wr.drewN nq) ⟨hO.os, hO.tape, hO.output, hO.size, hO.block⟩ HE.out rfl rfl rfl (HFi.out k hk3 hk2).loose⟩
          have HDa := (show Hid _ from r11data_any g k { st with sent := k } T (wr.drewN nq) hE (by have := HM.out; show k < st.took.length; omega))
          obtain ⟨vs, hvs, hnext⟩ := (hrow.below (w' := wr.drewN nq) ⟨rfl, rfl, rfl, Nat.le_refl _, fun _ _ => rfl⟩).own
          have HNx : Hid _ := hnext
          have hl3 : ((List.range' st.from (k - st.from)).map st.data).length ≤ 2147483648 := by simp; omega
          have HR0 : Hid (∀ w' : World, Below (wr.drewN nq).heap.size (wr.drewN nq) w' → ∀ o : Obj, (w'.alloc o).ownsRow 0 31 1 u3 ((List.range' st.from (k - st.from)).map st.data).length vs) := fun w' hb o => World.ownsRow.alloc (rowOwn_below hvs hb) _
          have HOw : Hid (∀ b, u3.ownBlock = some b → w.heap.size ≤ b) := by obtain ⟨_, _, q, _⟩ := hrow; exact q
          clear hE hnext hvs hrow
          refine Calls.mono HDa.out ?_
          rintro e w2 ⟨p, n, c, ys, rfl, hN, hI, hb2⟩
          have hsz2 : wr.heap.size ≤ w2.heap.size := hb2.size
          clear HDa
          go_wp2_with (at_builtin; refine wpList_appRow _ rfl _ _ 35 rfl Try.underlying35 u3 vs _ rfl (HR0.out w2 hb2 _) w2.heap.size (.slice p n c) rfl ?c1 rfl hl3 ?_)
          case c1 => simp
          intro v' w3 hown hg hv
          have hrow' := HNx.out _ w3 v' p n c ys (st.data k) (bthen hb2 (balloc w2 _)) (hN.toBytG.below (balloc w2 _)) hI (by rw [List.length_map, List.length_range']; exact hown) hg (by rw [World.size_alloc]; exact hv) hsz
          have hne : some g ≠ u3.ownBlock := fun e => by have := HOw.out g e.symm; omega
          have hh3 : w3.heap[g]? = some (.cells (endCells { st with sent := k } v1 v4 v6) 43 (0, 0)) := (hg.block g (by simp; omega) hne).trans ((heap_alloc_old w2 _ (show g < w2.heap.size by omega)).trans ((hb2.block g (show g < wr.heap.size by omega)).trans HE.out))
          have hO3 : Only (fun q => q = g) w w3 := by
            refine ⟨hg.os.trans (hb2.os.trans hO.os), hg.tape.trans (hb2.tape.trans hO.tape), hg.output.trans (hb2.output.trans hO.output), by have := hg.size; simp at this; omega, fun q hq hn => ?_⟩
            rw [hg.block q (by simp; omega) (fun e => by have := HOw.out q e.symm; omega), heap_alloc_old w2 _ (show q < w2.heap.size by omega), hb2.block q (show q < wr.heap.size by omega)]
            exact hO.block q hq hn
          rw [← range_snoc (by have := Hfr.out; omega)] at hrow'
          have x3 : w3.cell? ⟨g, 3, none⟩ = some (.int .i64 k) := cell_of_row w3 g 3 _ _ _ hh3
          have xf := frozen_of_row w3 g 3 _ _ hh3
          have hO4 : Only (fun q => q = g) w3 (w3.setCell ⟨g, 3, none⟩ (.int .i64 ((k : Int) + 1))) := Only.of_grown (grown_set w3 g 3 _) (fun b e => by cases e; rfl)
          have hh4 : Hid ((w3.setCell ⟨g, 3, none⟩ (.int .i64 ((k : Int) + 1))).heap[g]? = some (.cells (endCells { st with sent := k + 1 } v1 v4 v6) 43 (0, 0))) := by
            show _ = _
            rw [heap_setCell_same w3 g 3 _ _ (.int .i64 ((k : Int) + 1)) hh3]
            rfl
          have hrow4 : RowF w.heap.size (w3.setCell ⟨g, 3, none⟩ (.int .i64 ((k : Int) + 1))) v' ((List.range' st.from (k + 1 - st.from)).map st.data) := hrow'.only hO4 (fun b e => by rw [e]; exact HT.out g HG.out) (fun b e => by rw [e]; exact IsB.not hh3 (by decide))
          have hO5 := hO3.trans hO4 (fun q e => .inl e)
          have HMs : Hid ((w3.setCell ⟨g, 3, none⟩ (.int .i64 ((k : Int) + 1))).cell? ⟨g, 3, none⟩ = some (.int .i64 ((k : Int) + 1))) := World.cell?_setCell_same _ _ _ x3
          clear HNx HR0 HOw hown hg hv hN hI hb2 hrow' hh3 hO3 hO4
          go_wp2
          go_roundw
          case rel => exact ⟨k + 1, ⟨by omega, by omega⟩, hh4, hrow4, hO5⟩
          case measure => rw [HMs.out, d3]; simp [intOf]; omega
        · have q2d : decide ((k : Int) < (a : Int) + (wn : Int)) = false := decide_eq_false (by omega)
          go_wp2_with fail
          go_quiet (fail)
          obtain ⟨wt, hwt⟩ : ∃ wt, wt = World.drewN wr nq := ⟨_, rfl⟩
          have HEt : Hid (wt.heap[g]? = some (.cells (endCells { st with sent := k } v1 v4 v6) 43 (0, 0))) := by rw [hwt]; exact HE.out
          have hOt : Only (fun q => q = g) w wt := by rw [hwt]; exact ⟨hO.os, hO.tape, hO.output, hO.size, hO.block⟩
          have hrt : RowF w.heap.size wt u3 ((List.range' st.from (k - st.from)).map st.data) := by rw [hwt]; exact hrow.below ⟨rfl, rfl, rfl, Nat.le_refl _, fun _ _ => rfl⟩
          rw [← hwt]
          have hkd : k = st.due := by rw [hdue.out]; omega
          have t7 : wt.cell? ⟨g, 7, none⟩ = some (.bool st.owes) := cell_of_row wt g 7 _ _ _ HEt.out
          have t4 : wt.cell? ⟨g, 4, none⟩ = some v4 := cell_of_row wt g 4 _ _ _ HEt.out
          have t8 : wt.cell? ⟨g, 8, none⟩ = some (.bool st.tick) := cell_of_row wt g 8 _ _ _ HEt.out
          have f7 := frozen_of_row wt g 7 _ _ HEt.out
          have f8 := frozen_of_row wt g 8 _ _ HEt.out
          obtain ⟨a3, k3, e3, hl3, hm3⟩ := hrt.slice
          rw [List.length_map, List.length_range'] at e3 hl3
          obtain ⟨ln, hln⟩ : ∃ ln, ln = k - st.from := ⟨_, rfl⟩
          rw [← hln] at e3 hl3
          have HLn : Hid (ln = k - st.from) := hln
          clear hln
          unfold maxLen at hm3
          have HO : Hid (st.outD = (List.range' st.from (k - st.from)).map st.data) := by show _ = _; unfold LS.outD; rw [hkd]
          clear hwt hrow HE hO d0 d1 d2 d3
          by_cases z : k - st.from = 0 ∧ st.owes = true
          · obtain ⟨z0, z1⟩ := z
            obtain rfl : ln = 0 := HLn.out.trans z0
            rw [z1] at t7
            obtain ⟨a4, k4, e4, -, hk4, hk5⟩ := HV.out.all.slice
            obtain ⟨n, hn⟩ : ∃ n, n = st.all.length := ⟨_, rfl⟩
            have hn30 := HV.out.few.2.1
            rw [← hn] at e4 hn30
            rw [e4] at t4
            unfold maxLen at hk5
            have hr0 : rightFr false 0 (n : Int) ([] : List Int).length = true := (rightFr_iff _ _ _ _).2 ⟨by omega, by omega, by omega, by omega, by simp, .inr ⟨rfl, rfl⟩⟩
            have hF : st.outF = [⟨false, 0, n, []⟩] := by
              unfold LS.outF
              rw [HO.out, z0, if_pos ⟨rfl, z1⟩, hn]
            have hrt0 : RowF w.heap.size wt u3 [] := by rw [z0] at hrt; exact hrt
            obtain ⟨vs, hvs, hnext⟩ := hrt0.own
            have HNx : Hid _ := hnext
            have HOw : Hid (∀ b, u3.ownBlock = some b → w.heap.size ≤ b) := by obtain ⟨_, _, q, _⟩ := hrt0; exact q
            have HR0 : Hid (∀ w' : World, Below wt.heap.size wt w' → ∀ o : Obj, (w'.alloc o).ownsRow 0 31 1 u3 0 vs) := fun w' hb o => World.ownsRow.alloc (rowOwn_below hvs hb) _
            have HEn := (show Hid _ from r10enc_any false 0 n none 0 0 [] wt (Byts.nil _) (fun _ => rfl))
            have hszt := hOt.size
            have HHF : Hid (st.outF = [⟨false, 0, n, []⟩] ∧ rightFr false 0 (n : Int) ([] : List Int).length = true) := ⟨hF, hr0⟩
            subst e3
            clear hnext hvs hrt hrt0 hF hr0 hn e4 hk4
            go_wp2_with fail
            refine Calls.mono HEn.out ?_
            rintro e w2 ⟨za, zl, zc, ys, ze, rfl, hz, hres, ⟨zn, zf⟩, hb2⟩
            have hI : IsFr ⟨false, 0, n, []⟩ ys := by
              rcases hres with ⟨x, y, _⟩ | ⟨x, _, _⟩
              · exact ⟨x, y⟩
              · rw [HHF.out.2] at x; cases x
            have hB : BytG w2 za zl zc ys := ⟨hz, zn, fun ad e h0 => (zf ad e h0).2⟩
            have hsz2 := hb2.size
            clear HEn hres hz zn
            go_wp2_with (at_builtin; refine wpList_appRow _ rfl _ _ 35 rfl Try.underlying35 _ vs 0 rfl (HR0.out w2 hb2 _) w2.heap.size (.slice za zl zc) rfl ?c1 rfl (by omega) ?_)
            case c1 => simp
            intro v' w3 hown hg hv
            have hrow' := HNx.out _ w3 v' za zl zc ys ⟨false, 0, n, []⟩ (bthen hb2 (balloc w2 _)) (hB.below (balloc w2 _)) hI hown hg (by rw [World.size_alloc]; exact hv) hszt
            have hne : some g ≠ (Value.slice a3 0 k3).ownBlock := fun e => by have := HOw.out g e.symm; omega
            have hh3 : w3.heap[g]? = some (.cells (endCells { st with sent := k } v1 v4 v6) 43 (0, 0)) := (hg.block g (by simp; omega) hne).trans ((heap_alloc_old w2 _ (show g < w2.heap.size by omega)).trans ((hb2.block g (by omega)).trans HEt.out))
            have hO3 : Only (fun q => q = g) w w3 := by
              refine ⟨hg.os.trans (hb2.os.trans hOt.os), hg.tape.trans (hb2.tape.trans hOt.tape), hg.output.trans (hb2.output.trans hOt.output), by have := hg.size; simp at this; omega, fun q hq hn => ?_⟩
              rw [hg.block q (by simp; omega) (fun e => by have := HOw.out q e.symm; omega), heap_alloc_old w2 _ (show q < w2.heap.size by omega), hb2.block q (by omega)]
              exact hOt.block q hq hn
            have x7 : w3.cell? ⟨g, 7, none⟩ = some (.bool st.owes) := cell_of_row w3 g 7 _ _ _ hh3
            have x8 : w3.cell? ⟨g, 8, none⟩ = some (.bool st.tick) := cell_of_row w3 g 8 _ _ _ hh3
            have y7 := frozen_of_row w3 g 7 _ _ hh3
            have y8 := frozen_of_row w3 g 8 _ _ hh3
            have HFin : Hid (OutT11 REnd w g st T (.returned v') ((w3.setCell ⟨g, 7, none⟩ (.bool false)).setCell ⟨g, 8, none⟩ (.bool false))) := out_end HV.out HF0.out hh3 hO3 hkd (by rw [HHF.out.1]; exact hrow')
            clear HNx HR0 HOw hown hg hv hB hI hb2 hrow' hh3 hO3
            go_wp2
            go_ret
            exact HFin.out
          · have hF : st.outF = (List.range' st.from (k - st.from)).map st.data := by
              unfold LS.outF
              rw [HO.out, if_neg (fun c => z ⟨by have := congrArg List.length c.1; simpa using this, c.2⟩)]
            have HFin : Hid (OutT11 REnd w g st T (.returned u3) ((wt.setCell ⟨g, 7, none⟩ (.bool false)).setCell ⟨g, 8, none⟩ (.bool false))) := out_end HV.out HF0.out HEt.out hOt hkd (by rw [hF]; exact hrt)
            subst e3
            by_cases z0 : k - st.from = 0
            · have z1 : st.owes = false := by
                cases c : st.owes with
                | false => rfl
                | true => exact absurd ⟨z0, c⟩ z
              rw [z1] at t7
              obtain rfl : ln = 0 := HLn.out.trans z0
              clear z hF hrt
              go_wp2
              go_ret
              exact HFin.out
            · have z0i : ((ln : Int) == 0) = false := by have := HLn.out; simp; omega
              clear z hF hrt
              go_wp2
              go_ret
              exact HFin.out
      · have q1d : decide ((k : Int) < (m : Int)) = false := decide_eq_false (by omega)
        have q1e : decide (k < m) = false := decide_eq_false q1
        go_wp2_with fail
        go_quiet (fail)
        obtain ⟨wt, hwt⟩ : ∃ wt, wt = World.drewN wr nq := ⟨_, rfl⟩
        have HEt : Hid (wt.heap[g]? = some (.cells (endCells { st with sent := k } v1 v4 v6) 43 (0, 0))) := by rw [hwt]; exact HE.out
        have hOt : Only (fun q => q = g) w wt := by rw [hwt]; exact ⟨hO.os, hO.tape, hO.output, hO.size, hO.block⟩
        have hrt : RowF w.heap.size wt u3 ((List.range' st.from (k - st.from)).map st.data) := by rw [hwt]; exact hrow.below ⟨rfl, rfl, rfl, Nat.le_refl _, fun _ _ => rfl⟩
        rw [← hwt]
        have hkd : k = st.due := by rw [hdue.out]; omega
        have t7 : wt.cell? ⟨g, 7, none⟩ = some (.bool st.owes) := cell_of_row wt g 7 _ _ _ HEt.out
        have t4 : wt.cell? ⟨g, 4, none⟩ = some v4 := cell_of_row wt g 4 _ _ _ HEt.out
        have t8 : wt.cell? ⟨g, 8, none⟩ = some (.bool st.tick) := cell_of_row wt g 8 _ _ _ HEt.out
        have f7 := frozen_of_row wt g 7 _ _ HEt.out
        have f8 := frozen_of_row wt g 8 _ _ HEt.out
        obtain ⟨a3, k3, e3, hl3, hm3⟩ := hrt.slice
        rw [List.length_map, List.length_range'] at e3 hl3
        obtain ⟨ln, hln⟩ : ∃ ln, ln = k - st.from := ⟨_, rfl⟩
        rw [← hln] at e3 hl3
        have HLn : Hid (ln = k - st.from) := hln
        clear hln
        unfold maxLen at hm3
        have HO : Hid (st.outD = (List.range' st.from (k - st.from)).map st.data) := by show _ = _; unfold LS.outD; rw [hkd]
        clear hwt hrow HE hO d0 d1 d2 d3
        by_cases z : k - st.from = 0 ∧ st.owes = true
        · obtain ⟨z0, z1⟩ := z
          obtain rfl : ln = 0 := HLn.out.trans z0
          rw [z1] at t7
          obtain ⟨a4, k4, e4, -, hk4, hk5⟩ := HV.out.all.slice
          obtain ⟨n, hn⟩ : ∃ n, n = st.all.length := ⟨_, rfl⟩
          have hn30 := HV.out.few.2.1
          rw [← hn] at e4 hn30
          rw [e4] at t4
          unfold maxLen at hk5
          have hr0 : rightFr false 0 (n : Int) ([] : List Int).length = true := (rightFr_iff _ _ _ _).2 ⟨by omega, by omega, by omega, by omega, by simp, .inr ⟨rfl, rfl⟩⟩
          have hF : st.outF = [⟨false, 0, n, []⟩] := by
            unfold LS.outF
            rw [HO.out, z0, if_pos ⟨rfl, z1⟩, hn]
          have hrt0 : RowF w.heap.size wt u3 [] := by rw [z0] at hrt; exact hrt
          obtain ⟨vs, hvs, hnext⟩ := hrt0.own
          have HNx : Hid _ := hnext
          have HOw : Hid (∀ b, u3.ownBlock = some b → w.heap.size ≤ b) := by obtain ⟨_, _, q, _⟩ := hrt0; exact q
          have HR0 : Hid (∀ w' : World, Below wt.heap.size wt w' → ∀ o : Obj, (w'.alloc o).ownsRow 0 31 1 u3 0 vs) := fun w' hb o => World.ownsRow.alloc (rowOwn_below hvs hb) _
          have HEn := (show Hid _ from r10enc_any false 0 n none 0 0 [] wt (Byts.nil _) (fun _ => rfl))
          have hszt := hOt.size
          have HHF : Hid (st.outF = [⟨false, 0, n, []⟩] ∧ rightFr false 0 (n : Int) ([] : List Int).length = true) := ⟨hF, hr0⟩
          subst e3
          clear hnext hvs hrt hrt0 hF hr0 hn e4 hk4
          go_wp2_with fail
          refine Calls.mono HEn.out ?_
          rintro e w2 ⟨za, zl, zc, ys, ze, rfl, hz, hres, ⟨zn, zf⟩, hb2⟩
          have hI : IsFr ⟨false, 0, n, []⟩ ys := by
            rcases hres with ⟨x, y, _⟩ | ⟨x, _, _⟩
            · exact ⟨x, y⟩
            · rw [HHF.out.2] at x; cases x
          have hB : BytG w2 za zl zc ys := ⟨hz, zn, fun ad e h0 => (zf ad e h0).2⟩
          have hsz2 := hb2.size
          clear HEn hres hz zn
          go_wp2_with (at_builtin; refine wpList_appRow _ rfl _ _ 35 rfl Try.underlying35 _ vs 0 rfl (HR0.out w2 hb2 _) w2.heap.size (.slice za zl zc) rfl ?c1 rfl (by omega) ?_)
          case c1 => simp
          intro v' w3 hown hg hv
          have hrow' := HNx.out _ w3 v' za zl zc ys ⟨false, 0, n, []⟩ (bthen hb2 (balloc w2 _)) (hB.below (balloc w2 _)) hI hown hg (by rw [World.size_alloc]; exact hv) hszt
          have hne : some g ≠ (Value.slice a3 0 k3).ownBlock := fun e => by have := HOw.out g e.symm; omega
          have hh3 : w3.heap[g]? = some (.cells (endCells { st with sent := k } v1 v4 v6) 43 (0, 0)) := (hg.block g (by simp; omega) hne).trans ((heap_alloc_old w2 _ (show g < w2.heap.size by omega)).trans ((hb2.block g (by omega)).trans HEt.out))
          have hO3 : Only (fun q => q = g) w w3 := by
            refine ⟨hg.os.trans (hb2.os.trans hOt.os), hg.tape.trans (hb2.tape.trans hOt.tape), hg.output.trans (hb2.output.trans hOt.output), by have := hg.size; simp at this; omega, fun q hq hn => ?_⟩
            rw [hg.block q (by simp; omega) (fun e => by have := HOw.out q e.symm; omega), heap_alloc_old w2 _ (show q < w2.heap.size by omega), hb2.block q (by omega)]
            exact hOt.block q hq hn
          have x7 : w3.cell? ⟨g, 7, none⟩ = some (.bool st.owes) := cell_of_row w3 g 7 _ _ _ hh3
          have x8 : w3.cell? ⟨g, 8, none⟩ = some (.bool st.tick) := cell_of_row w3 g 8 _ _ _ hh3
          have y7 := frozen_of_row w3 g 7 _ _ hh3
          have y8 := frozen_of_row w3 g 8 _ _ hh3
          have HFin : Hid (OutT11 REnd w g st T (.returned v') ((w3.setCell ⟨g, 7, none⟩ (.bool false)).setCell ⟨g, 8, none⟩ (.bool false))) := out_end HV.out HF0.out hh3 hO3 hkd (by rw [HHF.out.1]; exact hrow')
          clear HNx HR0 HOw hown hg hv hB hI hb2 hrow' hh3 hO3
          go_wp2
          go_ret
          exact HFin.out
        · have hF : st.outF = (List.range' st.from (k - st.from)).map st.data := by
            unfold LS.outF
            rw [HO.out, if_neg (fun c => z ⟨by have := congrArg List.length c.1; simpa using this, c.2⟩)]
          have HFin : Hid (OutT11 REnd w g st T (.returned u3) ((wt.setCell ⟨g, 7, none⟩ (.bool false)).setCell ⟨g, 8, none⟩ (.bool false))) := out_end HV.out HF0.out HEt.out hOt hkd (by rw [hF]; exact hrt)
          subst e3
          by_cases z0 : k - st.from = 0
          · have z1 : st.owes = false := by
              cases c : st.owes with
              | false => rfl
              | true => exact absurd ⟨z0, c⟩ z
            rw [z1] at t7
            obtain rfl : ln = 0 := HLn.out.trans z0
            clear z hF hrt
            go_wp2
            go_ret
            exact HFin.out
          · have z0i : ((ln : Int) == 0) = false := by have := HLn.out; simp; omega
            clear z hF hrt
            go_wp2
            go_ret
            exact HFin.out
end Go.Proofs.Ytjokbikelklaiaa

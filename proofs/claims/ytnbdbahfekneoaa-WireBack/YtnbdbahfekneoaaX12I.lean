/-
  The contract of the program's Decode (wire).
-/
import Derived.Test.YtnbdbahfekneoaaX12H
import Derived.Test.YtnbdbahfekneoaaX12E
namespace Go.Proofs.Ytnbdbahfekneoaa
open Go.RowKit

/-- There is no message of these bytes. -/
theorem no_msg {L : List Int} (h : ∀ k a b c ids rows nats, RightM k a b c ids rows nats → DigsN nats → IsMsg k a b c ids rows nats L → ¬ L.length ≤ 1048576) {w w' : World} (hb : Below w.heap.size w w') : MDecT L w (.returned (.tuple #[.agg #[.int .i64 0, .int .i64 0, .int .i64 0, .int .i64 0, .slice none 0 0, .slice none 0 0, .slice none 0 0], .int .i64 16])) w' :=
  ⟨0, 0, 0, 0, none, 0, 0, none, 0, 0, none, 0, 0, [], [], [], 16, rfl, ⟨Lsts.nil _, Lsts.nil _, NRow.nil _⟩, .inr ⟨h, ⟨rfl, rfl, rfl, rfl⟩, ⟨rfl, rfl, rfl⟩, rfl⟩, hb⟩

set_option maxRecDepth 100000 in
set_option maxHeartbeats 12800000 in
theorem x12dec_any (p : Option Addr) (lb cb : Nat) (L : List Int) (w : World) (h : Byts w p lb cb L) (hlen : lb ≤ 140737488355300) : Calls Try.prog 13 #[.slice p lb cb] w fun e w' => MDecT L w e w' := by
  have hV := balloc w (.cells #[.int .i64 0, .int .i64 0, .int .i64 0, .int .i64 0, .slice none 0 0, .slice none 0 0, .slice none 0 0] 25)
  have hM := MsgAt.new w 0 0 0 0 none none none 0 0 0 0 0 0
  obtain ⟨V, hVe⟩ : ∃ V, V = w.alloc (.cells #[.int .i64 0, .int .i64 0, .int .i64 0, .int .i64 0, .slice none 0 0, .slice none 0 0, .slice none 0 0] 25) := ⟨_, rfl⟩
  rw [← hVe] at hV hM
  have HVe : Hid (V = w.alloc (.cells #[.int .i64 0, .int .i64 0, .int .i64 0, .int .i64 0, .slice none 0 0, .slice none 0 0, .slice none 0 0] 25)) := hVe
  obtain ⟨G, hG⟩ : ∃ G, G = w.heap.size := ⟨_, rfl⟩
  rw [← hG] at hM
  have HG : Hid (G = w.heap.size) := hG
  have hGV := hM.lt
  have hLl := h.hlen
  replace h := h.below hV
  have hwG : w.heap.size ≤ G := by omega
  clear hVe hG
  by_cases hbig : 1048576 < lb
  · have hbd : (1048576 : Int) < (lb : Int) := by omega
    obtain ⟨⟨r0, r1, r2, r3, r4, r5, r6⟩, fz⟩ := hM.cells
    have f0 := fz 0
    have f1 := fz 1
    have f2 := fz 2
    have f3 := fz 3
    have f4 := fz 4
    have f5 := fz 5
    have f6 := fz 6
    have HE : Hid (MDecT L w (.returned (.tuple #[.agg #[.int .i64 0, .int .i64 0, .int .i64 0, .int .i64 0, .slice none 0 0, .slice none 0 0, .slice none 0 0], .int .i64 16])) (((((((V.setCell ⟨G, 0, none⟩ (.int .i64 0)).setCell ⟨G, 1, none⟩ (.int .i64 0)).setCell ⟨G, 2, none⟩ (.int .i64 0)).setCell ⟨G, 3, none⟩ (.int .i64 0)).setCell ⟨G, 4, none⟩ (.slice none 0 0)).setCell ⟨G, 5, none⟩ (.slice none 0 0)).setCell ⟨G, 6, none⟩ (.slice none 0 0))) := no_msg (fun k a b c ids rows nats _ _ _ => by omega) (put7_below hV hwG (.int .i64 0) (.int .i64 0) (.int .i64 0) (.int .i64 0) (.slice none 0 0) (.slice none 0 0) (.slice none 0 0))
    clear h hM hV fz hLl hlen
    go_enter Try.func13, Try.ntmps13
    go_upto_region 1 with fail
    rw [← HVe.out, ← HG.out]
    go_wp2_with fail
    exact bodyPost_ret (v := .tuple #[.agg #[.int .i64 0, .int .i64 0, .int .i64 0, .int .i64 0, .slice none 0 0, .slice none 0 0, .slice none 0 0], .int .i64 16]) (by simp [results, Try.results13, go_sem, r0, r1, r2, r3, r4, r5, r6]) rfl HE.out
  have hbd : decide ((1048576 : Int) < (lb : Int)) = false := decide_eq_false (by omega)
  have HN := (show Hid _ from c9new_any p lb cb L V h hlen)
  have HL : Hid (L.length ≤ 1048576) := by show _ ≤ _; omega
  clear h hLl hlen hbig
  go_enter Try.func13, Try.ntmps13
  go_upto_region 1 with fail
  rw [← HVe.out, ← HG.out]
  go_wp2_with fail
  refine Calls.mono HN.out ?_
  rintro e w1 ⟨g, rfl, hg, hA, hb1⟩
  have HR := (show Hid _ from x12read_any g L w1 hA)
  have hM1 := hM.kept (hb1.block G hGV)
  have hGw1 := hM1.lt
  have hB1 := bthen hV hb1
  clear hA hM HN
  go_wp2_with fail
  refine Calls.mono HR.out ?_
  rintro e w2 ⟨k, a, b, c, pi, li, ci, pr, lr, cr, pn, ln, cn, ids, rows, nats, ok, rfl, ⟨hI, hRw, hNh⟩, hgr, hsnd, hcmp⟩
  have hM2 := hM1.kept (hgr.block G hGw1 (by simp; omega))
  have hB2 : Below w.heap.size w w2 := hB1.grown hgr hB1.size (fun j hj => by cases hj; exact Nat.le_trans hV.size hg)
  have hb3 := balloc w2 (.cells #[.int .i64 k, .int .i64 a, .int .i64 b, .int .i64 c, .slice pi li ci, .slice pr lr cr, .slice pn ln cn] 25)
  have hB3 := bthen hB2 hb3
  have hI3 := hI.kp (Kp.below hb3)
  have hR3 := hRw.kp (Kp.below hb3)
  have hN3 := hNh.below hb3
  have hM3 := hM2.kept (hb3.block G hM2.lt)
  have hQ3 := MsgAt.new w2 k a b c pi pr pn li ci lr cr ln cn
  obtain ⟨⟨m0, m1, m2, m3, m4, m5, m6⟩, -⟩ := hQ3.cells
  obtain ⟨⟨r0, r1, r2, r3, r4, r5, r6⟩, fz⟩ := hM3.cells
  have f0 := fz 0
  have f1 := fz 1
  have f2 := fz 2
  have f3 := fz 3
  have f4 := fz 4
  have f5 := fz 5
  have f6 := fz 6
  have HS : Hid ((ok = true → IsMsg k a b c ids rows nats L) ∧ (∀ k' a' b' c' ids' rows' nats', RightM k' a' b' c' ids' rows' nats' → DigsN nats' → IsMsg k' a' b' c' ids' rows' nats' L → ok = true ∧ (k = k' ∧ a = a' ∧ b = b' ∧ c = c') ∧ ids = ids' ∧ rows = rows' ∧ nats = nats')) := ⟨hsnd, hcmp⟩
  obtain ⟨pz, cz, ez, hNR, -⟩ := hN3.row
  obtain ⟨rfl, rfl, rfl⟩ : pn = pz ∧ ln = nats.length ∧ cn = cz := by injection ez with e1 e2 e3; exact ⟨e1, e2, e3⟩
  obtain ⟨ln, hln⟩ : ∃ ln, ln = nats.length := ⟨_, rfl⟩
  rw [← hln] at hN3 hNR hQ3 hB3 hI3 hR3 hM3 m0 m1 m2 m3 m4 m5 m6 r0 r1 r2 r3 r4 r5 r6 f0 f1 f2 f3 f4 f5 f6
  rw [← hln]
  have HRt := (show Hid _ from x12right_any k a b c pi li ci pr lr cr pn ln cn ids rows nats _ ⟨hI3.lsts, hR3.lsts, hNR⟩)
  have HW : Hid ((LstG (w2.alloc (.cells #[.int .i64 k, .int .i64 a, .int .i64 b, .int .i64 c, .slice pi li ci, .slice pr lr cr, .slice pn ln cn] 25)) pi li ci ids ∧ LstG (w2.alloc (.cells #[.int .i64 k, .int .i64 a, .int .i64 b, .int .i64 c, .slice pi li ci, .slice pr lr cr, .slice pn ln cn] 25)) pr lr cr rows ∧ NHd (w2.alloc (.cells #[.int .i64 k, .int .i64 a, .int .i64 b, .int .i64 c, .slice pi li ci, .slice pr lr cr, .slice pn ln cn] 25)) w1.heap.size (.slice pn ln cn) nats) ∧ MsgAt (w2.alloc (.cells #[.int .i64 k, .int .i64 a, .int .i64 b, .int .i64 c, .slice pi li ci, .slice pr lr cr, .slice pn ln cn] 25)) G 0 0 0 0 none 0 0 none 0 0 none 0 0 ∧ MsgAt (w2.alloc (.cells #[.int .i64 k, .int .i64 a, .int .i64 b, .int .i64 c, .slice pi li ci, .slice pr lr cr, .slice pn ln cn] 25)) w2.heap.size k a b c pi li ci pr lr cr pn ln cn ∧ G < w1.heap.size ∧ w.heap.size ≤ G) := ⟨⟨hI3, hR3, hN3⟩, hM3, hQ3, hGw1, hwG⟩
  clear HR hI hRw hNh hgr hsnd hcmp hM2 hB2 hb3 hI3 hR3 hN3 hM3 hQ3 fz hNR ez hln hB1 hb1 hM1 hV hg
  cases ok with
  | false =>
    have HE : Hid (MDecT L w (.returned (.tuple #[.agg #[.int .i64 0, .int .i64 0, .int .i64 0, .int .i64 0, .slice none 0 0, .slice none 0 0, .slice none 0 0], .int .i64 16])) ((((((((w2.alloc (.cells #[.int .i64 k, .int .i64 a, .int .i64 b, .int .i64 c, .slice pi li ci, .slice pr lr cr, .slice pn ln cn] 25)).setCell ⟨G, 0, none⟩ (.int .i64 0)).setCell ⟨G, 1, none⟩ (.int .i64 0)).setCell ⟨G, 2, none⟩ (.int .i64 0)).setCell ⟨G, 3, none⟩ (.int .i64 0)).setCell ⟨G, 4, none⟩ (.slice none 0 0)).setCell ⟨G, 5, none⟩ (.slice none 0 0)).setCell ⟨G, 6, none⟩ (.slice none 0 0))) := no_msg (fun k' a' b' c' ids' rows' nats' h1 h2 h3 => by cases (HS.out.2 _ _ _ _ _ _ _ h1 h2 h3).1) (put7_below hB3 hwG (.int .i64 0) (.int .i64 0) (.int .i64 0) (.int .i64 0) (.slice none 0 0) (.slice none 0 0) (.slice none 0 0))
    clear HS HRt HW hB3
    go_wp2_with fail
    exact bodyPost_ret (v := .tuple #[.agg #[.int .i64 0, .int .i64 0, .int .i64 0, .int .i64 0, .slice none 0 0, .slice none 0 0, .slice none 0 0], .int .i64 16]) (by simp [results, Try.results13, go_sem, r0, r1, r2, r3, r4, r5, r6]) rfl HE.out
  | true =>
    go_wp2_with fail
    refine Calls.mono HRt.out ?_
    rintro e w4 ⟨r, rfl, hr, hb4⟩
    obtain ⟨q, hq⟩ : ∃ q, q = w2.heap.size := ⟨_, rfl⟩
    have hM4 := HW.out.2.1.kept (hb4.block G HW.out.2.1.lt)
    have hQ4 := HW.out.2.2.1.kept (hb4.block _ HW.out.2.2.1.lt)
    have hB4 := bthen hB3 hb4
    rw [← hq] at hQ4
    rw [← hq]
    clear m0 m1 m2 m3 m4 m5 m6 r0 r1 r2 r3 r4 r5 r6 f0 f1 f2 f3 f4 f5 f6 hB3 hq
    obtain ⟨⟨m0, m1, m2, m3, m4, m5, m6⟩, -⟩ := hQ4.cells
    obtain ⟨⟨r0, r1, r2, r3, r4, r5, r6⟩, fz⟩ := hM4.cells
    have f0 := fz 0
    have f1 := fz 1
    have f2 := fz 2
    have f3 := fz 3
    have f4 := fz 4
    have f5 := fz 5
    have f6 := fz 6
    cases r with
    | false =>
      have HE : Hid (MDecT L w (.returned (.tuple #[.agg #[.int .i64 0, .int .i64 0, .int .i64 0, .int .i64 0, .slice none 0 0, .slice none 0 0, .slice none 0 0], .int .i64 16])) (((((((w4.setCell ⟨G, 0, none⟩ (.int .i64 0)).setCell ⟨G, 1, none⟩ (.int .i64 0)).setCell ⟨G, 2, none⟩ (.int .i64 0)).setCell ⟨G, 3, none⟩ (.int .i64 0)).setCell ⟨G, 4, none⟩ (.slice none 0 0)).setCell ⟨G, 5, none⟩ (.slice none 0 0)).setCell ⟨G, 6, none⟩ (.slice none 0 0))) := no_msg (fun k' a' b' c' ids' rows' nats' h1 h2 h3 => by
        obtain ⟨-, ⟨rfl, rfl, rfl, rfl⟩, rfl, rfl, rfl⟩ := HS.out.2 _ _ _ _ _ _ _ h1 h2 h3
        cases hr.2 h1) (put7_below hB4 hwG (.int .i64 0) (.int .i64 0) (.int .i64 0) (.int .i64 0) (.slice none 0 0) (.slice none 0 0) (.slice none 0 0))
      clear HS HRt HW hB4 hM4 hQ4 fz hb4 hr
      go_wp2_with fail
      exact bodyPost_ret (v := .tuple #[.agg #[.int .i64 0, .int .i64 0, .int .i64 0, .int .i64 0, .slice none 0 0, .slice none 0 0, .slice none 0 0], .int .i64 16]) (by simp [results, Try.results13, go_sem, r0, r1, r2, r3, r4, r5, r6]) rfl HE.out
    | true =>
      have HE : Hid (MDecT L w (.returned (.tuple #[.agg #[.int .i64 k, .int .i64 a, .int .i64 b, .int .i64 c, .slice pi li ci, .slice pr lr cr, .slice pn ln cn], .int .i64 0])) (((((((w4.setCell ⟨G, 0, none⟩ (.int .i64 k)).setCell ⟨G, 1, none⟩ (.int .i64 a)).setCell ⟨G, 2, none⟩ (.int .i64 b)).setCell ⟨G, 3, none⟩ (.int .i64 c)).setCell ⟨G, 4, none⟩ (.slice pi li ci)).setCell ⟨G, 5, none⟩ (.slice pr lr cr)).setCell ⟨G, 6, none⟩ (.slice pn ln cn))) := by
        have gp := put7_grown w4 G (.int .i64 k) (.int .i64 a) (.int .i64 b) (.int .i64 c) (.slice pi li ci) (.slice pr lr cr) (.slice pn ln cn)
        have hbp := put7_below hB4 hwG (.int .i64 k) (.int .i64 a) (.int .i64 b) (.int .i64 c) (.slice pi li ci) (.slice pr lr cr) (.slice pn ln cn)
        generalize (((((((w4.setCell ⟨G, 0, none⟩ (.int .i64 k)).setCell ⟨G, 1, none⟩ (.int .i64 a)).setCell ⟨G, 2, none⟩ (.int .i64 b)).setCell ⟨G, 3, none⟩ (.int .i64 c)).setCell ⟨G, 4, none⟩ (.slice pi li ci)).setCell ⟨G, 5, none⟩ (.slice pr lr cr)).setCell ⟨G, 6, none⟩ (.slice pn ln cn)) = wz at gp hbp ⊢
        have kpz := (Kp.below hb4).trans (Kp.grown gp (fun b e => by cases e; exact hM4.plain))
        have nz := (HW.out.1.2.2.below hb4).head gp hM4.head (fun b e => by have := ((HW.out.1.2.2.below hb4).own b e).2.1; have := HW.out.2.2.2.1; omega)
        obtain ⟨pz, cz, ez, hNR, -⟩ := nz.row
        obtain ⟨rfl, rfl, rfl⟩ : pn = pz ∧ ln = nats.length ∧ cn = cz := by injection ez with e1 e2 e3; exact ⟨e1, e2, e3⟩
        exact ⟨k, a, b, c, pi, li, ci, pr, lr, cr, pn, _, cn, ids, rows, nats, 0, rfl, ⟨(HW.out.1.1.kp kpz).lsts, (HW.out.1.2.1.kp kpz).lsts, hNR⟩, .inl ⟨hr.1 rfl, HS.out.1 (by first | rfl | trivial), HL.out, rfl⟩, hbp⟩
      clear HS HRt HW hB4 hM4 hQ4 fz hb4 hr
      go_wp2_with fail
      exact bodyPost_ret (v := .tuple #[.agg #[.int .i64 k, .int .i64 a, .int .i64 b, .int .i64 c, .slice pi li ci, .slice pr lr cr, .slice pn ln cn], .int .i64 0]) (by simp [results, Try.results13, go_sem, r0, r1, r2, r3, r4, r5, r6]) rfl HE.out
theorem dec_ok12 : DecOk12 := fun p lb cb L w h _ hl => x12dec_any p lb cb L w h hl
end Go.Proofs.Ytnbdbahfekneoaa

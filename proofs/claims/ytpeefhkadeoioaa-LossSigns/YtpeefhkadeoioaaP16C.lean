/-
  Stage 16's laws: the walks of Rises and Signs. Written by mk/p16.py.
-/
import Derived.Test.YtpeefhkadeoioaaP16A
namespace Go.Proofs.Ytpeefhkadeoioaa
open Go.RowKit

set_option maxRecDepth 20000 in
set_option maxHeartbeats 12800000 in
theorem rises16_walk (OG : GrdOk16) (c : Cfg) (x y l : Int) (w : World) (hw : CfgW c) (h1 : (-9223372036854775808 ≤ x ∧ x < 9223372036854775808)) (h2 : (-9223372036854775808 ≤ y ∧ y < 9223372036854775808)) (h3 : (-9223372036854775808 ≤ l ∧ l < 9223372036854775808)) : Calls Try.prog 6 #[.agg #[.int .i64 c.T, .int .i64 c.D, .int .i64 c.L, .int .i64 c.G, .int .i64 c.N, .int .i64 c.E, .int .i64 c.S, .int .i64 c.C], .agg #[.int .i64 x, .int .i64 y], .int .i64 l] w fun e w' => e = .returned (.bool true) ∧ Below w.heap.size w w' := by
  have hb := bthen (balloc w (.cells #[.int .i64 c.T, .int .i64 c.D, .int .i64 c.L, .int .i64 c.G, .int .i64 c.N, .int .i64 c.E, .int .i64 c.S, .int .i64 c.C] 23)) (balloc (w.alloc (.cells #[.int .i64 c.T, .int .i64 c.D, .int .i64 c.L, .int .i64 c.G, .int .i64 c.N, .int .i64 c.E, .int .i64 c.S, .int .i64 c.C] 23)) (.cells #[.int .i64 x, .int .i64 y] 34))
  obtain ⟨V, hVe⟩ : ∃ V, V = (w.alloc (.cells #[.int .i64 c.T, .int .i64 c.D, .int .i64 c.L, .int .i64 c.G, .int .i64 c.N, .int .i64 c.E, .int .i64 c.S, .int .i64 c.C] 23)).alloc (.cells #[.int .i64 x, .int .i64 y] 34) := ⟨_, rfl⟩
  have HVe : Hid (V = (w.alloc (.cells #[.int .i64 c.T, .int .i64 c.D, .int .i64 c.L, .int .i64 c.G, .int .i64 c.N, .int .i64 c.E, .int .i64 c.S, .int .i64 c.C] 23)).alloc (.cells #[.int .i64 x, .int .i64 y] 34)) := hVe
  obtain ⟨G0, hG⟩ : ∃ G0, G0 = w.heap.size := ⟨_, rfl⟩
  have HG : Hid (G0 = w.heap.size) := hG
  have hv : CVar V G0 c := by rw [hVe, hG]; exact (CVar.new w c).below (balloc (w.alloc (.cells #[.int .i64 c.T, .int .i64 c.D, .int .i64 c.L, .int .i64 c.G, .int .i64 c.N, .int .i64 c.E, .int .i64 c.S, .int .i64 c.C] 23)) (.cells #[.int .i64 x, .int .i64 y] 34))
  rw [← hVe] at hb
  have HB : Hid (Below w.heap.size w V ∧ CVar V G0 c) := ⟨hb, hv⟩
  have hR := heap_alloc_new (w.alloc (.cells #[.int .i64 c.T, .int .i64 c.D, .int .i64 c.L, .int .i64 c.G, .int .i64 c.N, .int .i64 c.E, .int .i64 c.S, .int .i64 c.C] 23)) (.cells #[.int .i64 x, .int .i64 y] 34)
  rw [show (w.alloc (.cells #[.int .i64 c.T, .int .i64 c.D, .int .i64 c.L, .int .i64 c.G, .int .i64 c.N, .int .i64 c.E, .int .i64 c.S, .int .i64 c.C] 23)).heap.size = w.heap.size + 1 by simp] at hR
  have y0 : V.cell? ⟨G0 + 1, 0, none⟩ = some (.int .i64 x) := by rw [hVe, hG, cell_of_row _ _ _ _ _ _ hR]; rfl
  have y1 : V.cell? ⟨G0 + 1, 1, none⟩ = some (.int .i64 y) := by rw [hVe, hG, cell_of_row _ _ _ _ _ _ hR]; rfl
  have HA := (show Hid (∀ wx : World, _) from fun wx => awake16_any OG wx)
  obtain ⟨lo, elo⟩ : ∃ lo, lo = min x y := ⟨_, rfl⟩
  obtain ⟨hi, ehi⟩ : ∃ hi, hi = max x y := ⟨_, rfl⟩
  have H1 : Hid (∀ wx : World, _) := fun wx => OG c lo l wx hw (by omega) h3
  have H2 : Hid (∀ wx : World, _) := fun wx => OG c hi l wx hw (by omega) h3
  have HL : Hid (lo ≤ hi) := by show _ ≤ _; omega
  clear hR
  obtain ⟨x0, x1, x2, x3, x4, x5, x6, x7⟩ := hv.cell
  clear hb hVe hG hv
  go_enter Try.func6, Try.ntmps6
  go_upto_region 1 with fail
  rw [← HVe.out, ← HG.out]
  clear HVe HG
  go_wp2_with fail
  refine Calls.mono (HA.out _) ?_
  rintro e w1 ⟨rfl, hb1⟩
  replace x0 := bkeep hb1 x0 rfl
  replace x1 := bkeep hb1 x1 rfl
  replace x2 := bkeep hb1 x2 rfl
  replace x3 := bkeep hb1 x3 rfl
  replace x4 := bkeep hb1 x4 rfl
  replace x5 := bkeep hb1 x5 rfl
  replace x6 := bkeep hb1 x6 rfl
  replace x7 := bkeep hb1 x7 rfl
  replace y0 := bkeep hb1 y0 rfl
  replace y1 := bkeep hb1 y1 rfl
  have HB1 : Hid (Below w.heap.size w w1) := bthen HB.out.1 hb1
  have el : min x y = lo := elo.symm
  have eh : max x y = hi := ehi.symm
  clear hb1 HA HB h1 h2 h3 elo ehi
  dsimp only
  go_wp2_with fail
  refine Calls.mono (H1.out _) ?_
  rintro e w2 ⟨a, e1, rfl, hr1, hb2⟩
  replace x0 := bkeep hb2 x0 rfl
  replace x1 := bkeep hb2 x1 rfl
  replace x2 := bkeep hb2 x2 rfl
  replace x3 := bkeep hb2 x3 rfl
  replace x4 := bkeep hb2 x4 rfl
  replace x5 := bkeep hb2 x5 rfl
  replace x6 := bkeep hb2 x6 rfl
  replace x7 := bkeep hb2 x7 rfl
  replace y0 := bkeep hb2 y0 rfl
  replace y1 := bkeep hb2 y1 rfl
  have HB2 : Hid (Below w.heap.size w w2 ∧ ResGrad c lo l a e1) := ⟨bthen HB1.out hb2, hr1⟩
  clear hb2 HB1 H1 hr1
  dsimp only
  go_wp2_with fail
  refine Calls.mono (H2.out _) ?_
  rintro e w3 ⟨b, e2, rfl, hr2, hb3⟩
  have HB3 : Hid (Below w.heap.size w w3 ∧ ResGrad c hi l b e2) := ⟨bthen HB2.out.1 hb3, hr2⟩
  have HR1 : Hid (ResGrad c lo l a e1) := HB2.out.2
  clear hb3 HB2 H2 hr2 x0 x1 x2 x3 x4 x5 x6 x7 y0 y1 el eh
  by_cases qe1 : e1 = 0
  case neg =>
    have k1 : (e1 != 0) = true := by simp [qe1]
    have k2 : (e1 == 0) = false := by simp [qe1]
    have HT : Hid (Below w.heap.size w w3) := HB3.out.1
    clear HB3 HR1 HL qe1
    dsimp only
    go_wp2
    go_ret
    exact ⟨rfl, HT.out⟩
  subst qe1
  by_cases qe2 : e2 = 0
  case neg =>
    have k1 : (e2 != 0) = true := by simp [qe2]
    have k2 : (e2 == 0) = false := by simp [qe2]
    have HT : Hid (Below w.heap.size w w3) := HB3.out.1
    clear HB3 HR1 HL qe2
    dsimp only
    go_wp2
    go_ret
    exact ⟨rfl, HT.out⟩
  subst qe2
  obtain ⟨ga, rfl⟩ := HR1.out.ok
  obtain ⟨gb, rfl⟩ := HB3.out.2.ok
  have m1 := gradV_rises ga.1 (l := l) HL.out
  have HT : Hid (Below w.heap.size w w3) := HB3.out.1
  obtain ⟨A, hA⟩ : ∃ A, A = gradV c lo l := ⟨_, rfl⟩
  obtain ⟨B, hB⟩ : ∃ B, B = gradV c hi l := ⟨_, rfl⟩
  rw [← hA, ← hB] at m1
  rw [← hA, ← hB]
  have d1 : decide (A ≤ B) = true := decide_eq_true m1.1
  obtain ⟨p, hp⟩ : ∃ p, p = decide (l < lo) := ⟨_, rfl⟩
  obtain ⟨q, hq⟩ : ∃ q, q = decide (lo < l) := ⟨_, rfl⟩
  have d2 : decide (0 < A) = p := by rw [hp]; exact decide_eq_decide.2 m1.2.1
  have d3 : decide (A < 0) = q := by rw [hq]; exact decide_eq_decide.2 m1.2.2
  have d4 := hp.symm
  have d5 := hq.symm
  have k1 : (p == p) = true := by simp
  have k2 : (q == q) = true := by simp
  clear HB3 HR1 HL ga gb m1 hA hB hp hq
  dsimp only
  go_wp2
  go_ret
  exact ⟨rfl, HT.out⟩
set_option maxRecDepth 20000 in
set_option maxHeartbeats 3200000 in
theorem signs16_walk (OG : GrdOk16) (OW : WgtOk16) (c : Cfg) (G H : Int) (w : World) (hw : CfgW c) (h1 : (-9223372036854775808 ≤ G ∧ G < 9223372036854775808)) (h2 : (-9223372036854775808 ≤ H ∧ H < 9223372036854775808)) : Calls Try.prog 7 #[.agg #[.int .i64 c.T, .int .i64 c.D, .int .i64 c.L, .int .i64 c.G, .int .i64 c.N, .int .i64 c.E, .int .i64 c.S, .int .i64 c.C], .agg #[.int .i64 G, .int .i64 H]] w fun e w' => e = .returned (.bool true) ∧ Below w.heap.size w w' := by
  have hb := bthen (balloc w (.cells #[.int .i64 c.T, .int .i64 c.D, .int .i64 c.L, .int .i64 c.G, .int .i64 c.N, .int .i64 c.E, .int .i64 c.S, .int .i64 c.C] 23)) (balloc (w.alloc (.cells #[.int .i64 c.T, .int .i64 c.D, .int .i64 c.L, .int .i64 c.G, .int .i64 c.N, .int .i64 c.E, .int .i64 c.S, .int .i64 c.C] 23)) (.cells #[.int .i64 G, .int .i64 H] 31))
  obtain ⟨V, hVe⟩ : ∃ V, V = (w.alloc (.cells #[.int .i64 c.T, .int .i64 c.D, .int .i64 c.L, .int .i64 c.G, .int .i64 c.N, .int .i64 c.E, .int .i64 c.S, .int .i64 c.C] 23)).alloc (.cells #[.int .i64 G, .int .i64 H] 31) := ⟨_, rfl⟩
  have HVe : Hid (V = (w.alloc (.cells #[.int .i64 c.T, .int .i64 c.D, .int .i64 c.L, .int .i64 c.G, .int .i64 c.N, .int .i64 c.E, .int .i64 c.S, .int .i64 c.C] 23)).alloc (.cells #[.int .i64 G, .int .i64 H] 31)) := hVe
  obtain ⟨G0, hG⟩ : ∃ G0, G0 = w.heap.size := ⟨_, rfl⟩
  have HG : Hid (G0 = w.heap.size) := hG
  have hv : CVar V G0 c := by rw [hVe, hG]; exact (CVar.new w c).below (balloc (w.alloc (.cells #[.int .i64 c.T, .int .i64 c.D, .int .i64 c.L, .int .i64 c.G, .int .i64 c.N, .int .i64 c.E, .int .i64 c.S, .int .i64 c.C] 23)) (.cells #[.int .i64 G, .int .i64 H] 31))
  rw [← hVe] at hb
  have HB : Hid (Below w.heap.size w V ∧ CVar V G0 c) := ⟨hb, hv⟩
  have hs : SVar V (G0 + 1) G H := by
    have := heap_alloc_new (w.alloc (.cells #[.int .i64 c.T, .int .i64 c.D, .int .i64 c.L, .int .i64 c.G, .int .i64 c.N, .int .i64 c.E, .int .i64 c.S, .int .i64 c.C] 23)) (.cells #[.int .i64 G, .int .i64 H] 31)
    rw [show (w.alloc (.cells #[.int .i64 c.T, .int .i64 c.D, .int .i64 c.L, .int .i64 c.G, .int .i64 c.N, .int .i64 c.E, .int .i64 c.S, .int .i64 c.C] 23)).heap.size = w.heap.size + 1 by simp] at this
    rw [hVe, hG]
    exact this
  obtain ⟨y0, y1⟩ := hs.cell
  have HA := (show Hid (∀ wx : World, _) from fun wx => awake16_any OG wx)
  have H1 : Hid (∀ wx : World, _) := fun wx => OW c G H wx hw h1 h2
  clear hs
  obtain ⟨x0, x1, x2, x3, x4, x5, x6, x7⟩ := hv.cell
  clear hb hVe hG hv
  go_enter Try.func7, Try.ntmps7
  go_upto_region 1 with fail
  rw [← HVe.out, ← HG.out]
  clear HVe HG
  go_wp2_with fail
  refine Calls.mono (HA.out _) ?_
  rintro e w1 ⟨rfl, hb1⟩
  replace x0 := bkeep hb1 x0 rfl
  replace x1 := bkeep hb1 x1 rfl
  replace x2 := bkeep hb1 x2 rfl
  replace x3 := bkeep hb1 x3 rfl
  replace x4 := bkeep hb1 x4 rfl
  replace x5 := bkeep hb1 x5 rfl
  replace x6 := bkeep hb1 x6 rfl
  replace x7 := bkeep hb1 x7 rfl
  replace y0 := bkeep hb1 y0 rfl
  replace y1 := bkeep hb1 y1 rfl
  have HB1 : Hid (Below w.heap.size w w1) := bthen HB.out.1 hb1
  clear hb1 HA HB h1 h2
  dsimp only
  go_wp2_with fail
  refine Calls.mono (H1.out _) ?_
  rintro e w2 ⟨g, e1, rfl, hr, hb2⟩
  replace y0 := bkeep hb2 y0 rfl
  replace y1 := bkeep hb2 y1 rfl
  have HB2 : Hid (Below w.heap.size w w2 ∧ ResWeight c G H g e1) := ⟨bthen HB1.out hb2, hr⟩
  clear hb2 HB1 H1 hr x0 x1 x2 x3 x4 x5 x6 x7 y1
  by_cases qe1 : e1 = 0
  case neg =>
    have k1 : (e1 != 0) = true := by simp [qe1]
    have k2 : (e1 == 0) = false := by simp [qe1]
    have HT : Hid (Below w.heap.size w w2) := HB2.out.1
    clear HB2 y0 qe1
    dsimp only
    go_wp2
    go_ret
    exact ⟨rfl, HT.out⟩
  subst qe1
  obtain ⟨⟨hok, hsm⟩, rfl⟩ := HB2.out.2.ok
  have m1 := weightV_signs hok hsm
  have HT : Hid (Below w.heap.size w w2) := HB2.out.1
  have b1 := hsm.1
  have b2 := hsm.2.1
  obtain ⟨A, hA⟩ : ∃ A, A = weightV c G H := ⟨_, rfl⟩
  rw [← hA] at m1
  rw [← hA]
  obtain ⟨p, hp⟩ : ∃ p, p = decide (0 < G) := ⟨_, rfl⟩
  have d1 : decide (A < 0) = p := by rw [hp]; exact decide_eq_decide.2 m1.1
  have d2 := hp.symm
  have k1 : (p == p) = true := by simp
  have d3 : decide (A ≤ max 0 (-G)) = true := decide_eq_true m1.2.1
  have d4 : decide (min 0 (-G) ≤ A) = true := decide_eq_true m1.2.2
  have hwn : RowKit.wrap64 (-G) = -G := by unfold RowKit.wrap64; omega
  have hwm : IntKind.i64.wrap (-G) = -G := by rw [IntKind.wrap_i64]; omega
  clear HB2 hok hsm m1 hA hp
  dsimp only
  go_wp2
  go_ret
  exact ⟨rfl, HT.out⟩
end Go.Proofs.Ytpeefhkadeoioaa

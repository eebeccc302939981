/-
  Stage 16's laws: the walks of Rights, Grads, Weights. Written by mk/p16.py.
-/
import Derived.Test.YtpeefhkadeoioaaP16A
namespace Go.Proofs.Ytpeefhkadeoioaa
open Go.RowKit

set_option maxRecDepth 20000 in
set_option maxHeartbeats 3200000 in
theorem rights16_walk (OG : GrdOk16) (OR : RgtOk16) (c : Cfg) (w : World) (hw : CfgW c) : Calls Try.prog 3 #[.agg #[.int .i64 c.T, .int .i64 c.D, .int .i64 c.L, .int .i64 c.G, .int .i64 c.N, .int .i64 c.E, .int .i64 c.S, .int .i64 c.C]] w fun e w' => e = .returned (.bool true) ∧ Below w.heap.size w w' := by
  have hb := balloc w (.cells #[.int .i64 c.T, .int .i64 c.D, .int .i64 c.L, .int .i64 c.G, .int .i64 c.N, .int .i64 c.E, .int .i64 c.S, .int .i64 c.C] 23)
  obtain ⟨V, hVe⟩ : ∃ V, V = w.alloc (.cells #[.int .i64 c.T, .int .i64 c.D, .int .i64 c.L, .int .i64 c.G, .int .i64 c.N, .int .i64 c.E, .int .i64 c.S, .int .i64 c.C] 23) := ⟨_, rfl⟩
  have HVe : Hid (V = w.alloc (.cells #[.int .i64 c.T, .int .i64 c.D, .int .i64 c.L, .int .i64 c.G, .int .i64 c.N, .int .i64 c.E, .int .i64 c.S, .int .i64 c.C] 23)) := hVe
  obtain ⟨G0, hG⟩ : ∃ G0, G0 = w.heap.size := ⟨_, rfl⟩
  have HG : Hid (G0 = w.heap.size) := hG
  have hv : CVar V G0 c := by rw [hVe, hG]; exact CVar.new w c
  rw [← hVe] at hb
  have HB : Hid (Below w.heap.size w V ∧ CVar V G0 c) := ⟨hb, hv⟩
  have HA := (show Hid (∀ wx : World, _) from fun wx => awake16_any OG wx)
  have H1 : Hid (∀ wx : World, _) := fun wx => OR c wx hw
  have H2 : Hid (∀ wx : World, _) := fun wx => r16right_any c wx
  obtain ⟨x0, x1, x2, x3, x4, x5, x6, x7⟩ := hv.cell
  clear hb hVe hG hv
  go_enter Try.func3, Try.ntmps3
  go_upto_region 1 with fail
  rw [← HVe.out, ← HG.out]
  clear HVe HG
  go_wp2_with fail
  refine Calls.mono (HA.out _) ?_
  rintro e w1 ⟨rfl, hb1⟩
  replace x0 := bkeep hb1 x0 rfl
  replace x1 := bkeep hb1 x1 rfl
  replace x2 := bkeep hb1 x2 rfl
  replace x3 := bkeep hb1 x3 rfl
  replace x4 := bkeep hb1 x4 rfl
  replace x5 := bkeep hb1 x5 rfl
  replace x6 := bkeep hb1 x6 rfl
  replace x7 := bkeep hb1 x7 rfl
  have HB1 : Hid (Below w.heap.size w w1) := bthen HB.out.1 hb1
  clear hb1 HA HB
  dsimp only
  go_wp2_with fail
  refine Calls.mono (H1.out _) ?_
  rintro e w2 ⟨z, rfl, hz, hb2⟩
  replace x0 := bkeep hb2 x0 rfl
  replace x1 := bkeep hb2 x1 rfl
  replace x2 := bkeep hb2 x2 rfl
  replace x3 := bkeep hb2 x3 rfl
  replace x4 := bkeep hb2 x4 rfl
  replace x5 := bkeep hb2 x5 rfl
  replace x6 := bkeep hb2 x6 rfl
  replace x7 := bkeep hb2 x7 rfl
  have HB2 : Hid (Below w.heap.size w w2 ∧ (z = true ↔ CfgOk c)) := ⟨bthen HB1.out hb2, hz⟩
  clear hb2 HB1 H1 hz
  dsimp only
  go_wp2_with fail
  refine Calls.mono (H2.out _) ?_
  rintro e w3 ⟨y, rfl, hy, hb3⟩
  obtain rfl : z = y := Bool.eq_iff_iff.2 (HB2.out.2.trans hy.symm)
  have HT : Hid (Below w.heap.size w w3) := bthen HB2.out.1 hb3
  have k1 : (z == z) = true := by simp
  clear HB2 H2 hb3 hy x0 x1 x2 x3 x4 x5 x6 x7
  dsimp only
  go_wp2
  go_ret
  exact ⟨rfl, HT.out⟩
set_option maxRecDepth 20000 in
set_option maxHeartbeats 3200000 in
theorem grads16_walk (OG : GrdOk16) (c : Cfg) (s l : Int) (w : World) (hw : CfgW c) (h1 : (-9223372036854775808 ≤ s ∧ s < 9223372036854775808)) (h2 : (-9223372036854775808 ≤ l ∧ l < 9223372036854775808)) : Calls Try.prog 4 #[.agg #[.int .i64 c.T, .int .i64 c.D, .int .i64 c.L, .int .i64 c.G, .int .i64 c.N, .int .i64 c.E, .int .i64 c.S, .int .i64 c.C], .int .i64 s, .int .i64 l] w fun e w' => e = .returned (.bool true) ∧ Below w.heap.size w w' := by
  have hb := balloc w (.cells #[.int .i64 c.T, .int .i64 c.D, .int .i64 c.L, .int .i64 c.G, .int .i64 c.N, .int .i64 c.E, .int .i64 c.S, .int .i64 c.C] 23)
  obtain ⟨V, hVe⟩ : ∃ V, V = w.alloc (.cells #[.int .i64 c.T, .int .i64 c.D, .int .i64 c.L, .int .i64 c.G, .int .i64 c.N, .int .i64 c.E, .int .i64 c.S, .int .i64 c.C] 23) := ⟨_, rfl⟩
  have HVe : Hid (V = w.alloc (.cells #[.int .i64 c.T, .int .i64 c.D, .int .i64 c.L, .int .i64 c.G, .int .i64 c.N, .int .i64 c.E, .int .i64 c.S, .int .i64 c.C] 23)) := hVe
  obtain ⟨G0, hG⟩ : ∃ G0, G0 = w.heap.size := ⟨_, rfl⟩
  have HG : Hid (G0 = w.heap.size) := hG
  have hv : CVar V G0 c := by rw [hVe, hG]; exact CVar.new w c
  rw [← hVe] at hb
  have HB : Hid (Below w.heap.size w V ∧ CVar V G0 c) := ⟨hb, hv⟩
  have HA := (show Hid (∀ wx : World, _) from fun wx => awake16_any OG wx)
  have H1 : Hid (∀ wx : World, _) := fun wx => OG c s l wx hw h1 h2
  have H2 : Hid (∀ wx : World, _) := fun wx => r16grad_any c s l wx
  obtain ⟨x0, x1, x2, x3, x4, x5, x6, x7⟩ := hv.cell
  clear hb hVe hG hv
  go_enter Try.func4, Try.ntmps4
  go_upto_region 1 with fail
  rw [← HVe.out, ← HG.out]
  clear HVe HG
  go_wp2_with fail
  refine Calls.mono (HA.out _) ?_
  rintro e w1 ⟨rfl, hb1⟩
  replace x0 := bkeep hb1 x0 rfl
  replace x1 := bkeep hb1 x1 rfl
  replace x2 := bkeep hb1 x2 rfl
  replace x3 := bkeep hb1 x3 rfl
  replace x4 := bkeep hb1 x4 rfl
  replace x5 := bkeep hb1 x5 rfl
  replace x6 := bkeep hb1 x6 rfl
  replace x7 := bkeep hb1 x7 rfl
  have HB1 : Hid (Below w.heap.size w w1) := bthen HB.out.1 hb1
  clear hb1 HA HB h1 h2
  dsimp only
  go_wp2_with fail
  refine Calls.mono (H1.out _) ?_
  rintro e w2 ⟨g, err, rfl, hr, hb2⟩
  replace x0 := bkeep hb2 x0 rfl
  replace x1 := bkeep hb2 x1 rfl
  replace x2 := bkeep hb2 x2 rfl
  replace x3 := bkeep hb2 x3 rfl
  replace x4 := bkeep hb2 x4 rfl
  replace x5 := bkeep hb2 x5 rfl
  replace x6 := bkeep hb2 x6 rfl
  replace x7 := bkeep hb2 x7 rfl
  have HB2 : Hid (Below w.heap.size w w2 ∧ ResGrad c s l g err) := ⟨bthen HB1.out hb2, hr⟩
  clear hb2 HB1 H1 hr
  dsimp only
  go_wp2_with fail
  refine Calls.mono (H2.out _) ?_
  rintro e w3 ⟨g', err', rfl, hr, hb3⟩
  obtain ⟨rfl, rfl⟩ := HB2.out.2.unique hr
  have HT : Hid (Below w.heap.size w w3) := bthen HB2.out.1 hb3
  have k1 : (g == g) = true := by simp
  have k2 : (err == err) = true := by simp
  clear HB2 H2 hb3 hr x0 x1 x2 x3 x4 x5 x6 x7
  dsimp only
  go_wp2
  go_ret
  exact ⟨rfl, HT.out⟩
set_option maxRecDepth 20000 in
set_option maxHeartbeats 3200000 in
theorem weights16_walk (OG : GrdOk16) (OW : WgtOk16) (c : Cfg) (G H : Int) (w : World) (hw : CfgW c) (h1 : (-9223372036854775808 ≤ G ∧ G < 9223372036854775808)) (h2 : (-9223372036854775808 ≤ H ∧ H < 9223372036854775808)) : Calls Try.prog 5 #[.agg #[.int .i64 c.T, .int .i64 c.D, .int .i64 c.L, .int .i64 c.G, .int .i64 c.N, .int .i64 c.E, .int .i64 c.S, .int .i64 c.C], .agg #[.int .i64 G, .int .i64 H]] w fun e w' => e = .returned (.bool true) ∧ Below w.heap.size w w' := by
  have hb := bthen (balloc w (.cells #[.int .i64 c.T, .int .i64 c.D, .int .i64 c.L, .int .i64 c.G, .int .i64 c.N, .int .i64 c.E, .int .i64 c.S, .int .i64 c.C] 23)) (balloc (w.alloc (.cells #[.int .i64 c.T, .int .i64 c.D, .int .i64 c.L, .int .i64 c.G, .int .i64 c.N, .int .i64 c.E, .int .i64 c.S, .int .i64 c.C] 23)) (.cells #[.int .i64 G, .int .i64 H] 31))
  obtain ⟨V, hVe⟩ : ∃ V, V = (w.alloc (.cells #[.int .i64 c.T, .int .i64 c.D, .int .i64 c.L, .int .i64 c.G, .int .i64 c.N, .int .i64 c.E, .int .i64 c.S, .int .i64 c.C] 23)).alloc (.cells #[.int .i64 G, .int .i64 H] 31) := ⟨_, rfl⟩
  have HVe : Hid (V = (w.alloc (.cells #[.int .i64 c.T, .int .i64 c.D, .int .i64 c.L, .int .i64 c.G, .int .i64 c.N, .int .i64 c.E, .int .i64 c.S, .int .i64 c.C] 23)).alloc (.cells #[.int .i64 G, .int .i64 H] 31)) := hVe
  obtain ⟨G0, hG⟩ : ∃ G0, G0 = w.heap.size := ⟨_, rfl⟩
  have HG : Hid (G0 = w.heap.size) := hG
  have hv : CVar V G0 c := by rw [hVe, hG]; exact (CVar.new w c).below (balloc (w.alloc (.cells #[.int .i64 c.T, .int .i64 c.D, .int .i64 c.L, .int .i64 c.G, .int .i64 c.N, .int .i64 c.E, .int .i64 c.S, .int .i64 c.C] 23)) (.cells #[.int .i64 G, .int .i64 H] 31))
  rw [← hVe] at hb
  have HB : Hid (Below w.heap.size w V ∧ CVar V G0 c) := ⟨hb, hv⟩
  have hs : SVar V (G0 + 1) G H := by
    have := heap_alloc_new (w.alloc (.cells #[.int .i64 c.T, .int .i64 c.D, .int .i64 c.L, .int .i64 c.G, .int .i64 c.N, .int .i64 c.E, .int .i64 c.S, .int .i64 c.C] 23)) (.cells #[.int .i64 G, .int .i64 H] 31)
    rw [show (w.alloc (.cells #[.int .i64 c.T, .int .i64 c.D, .int .i64 c.L, .int .i64 c.G, .int .i64 c.N, .int .i64 c.E, .int .i64 c.S, .int .i64 c.C] 23)).heap.size = w.heap.size + 1 by simp] at this
    rw [hVe, hG]
    exact this
  obtain ⟨y0, y1⟩ := hs.cell
  have HA := (show Hid (∀ wx : World, _) from fun wx => awake16_any OG wx)
  have H1 : Hid (∀ wx : World, _) := fun wx => OW c G H wx hw h1 h2
  have H2 : Hid (∀ wx : World, _) := fun wx => r16weight_any c G H wx
  clear hs
  obtain ⟨x0, x1, x2, x3, x4, x5, x6, x7⟩ := hv.cell
  clear hb hVe hG hv
  go_enter Try.func5, Try.ntmps5
  go_upto_region 1 with fail
  rw [← HVe.out, ← HG.out]
  clear HVe HG
  go_wp2_with fail
  refine Calls.mono (HA.out _) ?_
  rintro e w1 ⟨rfl, hb1⟩
  replace x0 := bkeep hb1 x0 rfl
  replace x1 := bkeep hb1 x1 rfl
  replace x2 := bkeep hb1 x2 rfl
  replace x3 := bkeep hb1 x3 rfl
  replace x4 := bkeep hb1 x4 rfl
  replace x5 := bkeep hb1 x5 rfl
  replace x6 := bkeep hb1 x6 rfl
  replace x7 := bkeep hb1 x7 rfl
  replace y0 := bkeep hb1 y0 rfl
  replace y1 := bkeep hb1 y1 rfl
  have HB1 : Hid (Below w.heap.size w w1) := bthen HB.out.1 hb1
  clear hb1 HA HB h1 h2
  dsimp only
  go_wp2_with fail
  refine Calls.mono (H1.out _) ?_
  rintro e w2 ⟨g, err, rfl, hr, hb2⟩
  replace x0 := bkeep hb2 x0 rfl
  replace x1 := bkeep hb2 x1 rfl
  replace x2 := bkeep hb2 x2 rfl
  replace x3 := bkeep hb2 x3 rfl
  replace x4 := bkeep hb2 x4 rfl
  replace x5 := bkeep hb2 x5 rfl
  replace x6 := bkeep hb2 x6 rfl
  replace x7 := bkeep hb2 x7 rfl
  replace y0 := bkeep hb2 y0 rfl
  replace y1 := bkeep hb2 y1 rfl
  have HB2 : Hid (Below w.heap.size w w2 ∧ ResWeight c G H g err) := ⟨bthen HB1.out hb2, hr⟩
  clear hb2 HB1 H1 hr
  dsimp only
  go_wp2_with fail
  refine Calls.mono (H2.out _) ?_
  rintro e w3 ⟨g', err', rfl, hr, hb3⟩
  obtain ⟨rfl, rfl⟩ := HB2.out.2.unique hr
  have HT : Hid (Below w.heap.size w w3) := bthen HB2.out.1 hb3
  have k1 : (g == g) = true := by simp
  have k2 : (err == err) = true := by simp
  clear HB2 H2 hb3 hr x0 x1 x2 x3 x4 x5 x6 x7 y0 y1
  dsimp only
  go_wp2
  go_ret
  exact ⟨rfl, HT.out⟩
end Go.Proofs.Ytpeefhkadeoioaa

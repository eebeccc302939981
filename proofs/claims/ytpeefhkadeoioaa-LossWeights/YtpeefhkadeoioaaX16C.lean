/-
  The program's weights: the product, Weight. Written by mk/x16.py.
-/
import Derived.Test.YtpeefhkadeoioaaX16B
import Derived.Test.YtpeefhkadeoioaaRef16D
import Derived.Test.YtpeefhkadeoioaaModB
import Derived.Test.YtpeefhkadeoioaaWAtA
import Derived.Deep.RegionWith
import Derived.Deep.RegionHeld3
import Derived.BigRegion
namespace Go.Proofs.Ytpeefhkadeoioaa
open Go.RowKit

theorem put2_cells16 {W : World} {R : Nat} {x y : Value} (h : W.heap[R]? = some (.cells #[x, y] 45 (0, 0))) (v0 v1 : Value) : (W.cell? ⟨R, 0, none⟩ = some x ∧ W.frozen? ⟨R, 0, none⟩ = false) ∧ (W.cell? ⟨R, 1, none⟩ = some y ∧ W.frozen? ⟨R, 1, none⟩ = false) ∧ ((W.setCell ⟨R, 0, none⟩ v0).setCell ⟨R, 1, none⟩ v1).cell? ⟨R, 0, none⟩ = some v0 ∧ ((W.setCell ⟨R, 0, none⟩ v0).setCell ⟨R, 1, none⟩ v1).cell? ⟨R, 1, none⟩ = some v1 := by
  have k1 := heap_setCell_same W R 0 _ _ v0 h
  have k2 := heap_setCell_same _ R 1 _ _ v1 k1
  exact ⟨⟨by rw [cell_of_row _ _ _ _ _ _ h]; rfl, frozen_of_row _ _ _ _ _ h⟩, ⟨by rw [cell_of_row _ _ _ _ _ _ h]; rfl, frozen_of_row _ _ _ _ _ h⟩, by rw [cell_of_row _ _ _ _ _ _ k2]; rfl, by rw [cell_of_row _ _ _ _ _ _ k2]; rfl⟩
set_option maxRecDepth 20000 in
set_option maxHeartbeats 6400000 in
theorem x16prod_any (x y : Int) (w : World) (hx : (-9223372036854775808 ≤ x ∧ x < 9223372036854775808)) (hy : (-9223372036854775808 ≤ y ∧ y < 9223372036854775808)) (hs : ((x * y).natAbs : Int) < 18446744073709551616 ^ 64) :
    Calls Try.prog 20 #[.int .i64 x, .int .i64 y] w fun e w' => ∃ p a l k, e = .returned (.agg #[.bool p, .slice a l k]) ∧ WAt w' p a l k (x * y) ∧ Below w.heap.size w w' := by
  have hb := balloc w (.cells #[.bool false, .slice none 0 0] 45)
  obtain ⟨V, hVe⟩ : ∃ V, V = w.alloc (.cells #[.bool false, .slice none 0 0] 45) := ⟨_, rfl⟩
  have HVe : Hid (V = w.alloc (.cells #[.bool false, .slice none 0 0] 45)) := hVe
  obtain ⟨g0, hG⟩ : ∃ g0, g0 = w.heap.size := ⟨_, rfl⟩
  have HG : Hid (g0 = w.heap.size) := hG
  have HG0 : Hid (g0 = w.heap.size) := hG
  have hR : V.heap[g0]? = some (.cells #[.bool false, .slice none 0 0] 45 (0, 0)) := by rw [hVe, hG]; exact heap_alloc_new _ _
  rw [← hVe] at hb
  have HB : Hid (Below w.heap.size w V ∧ V.heap[g0]? = some (.cells #[.bool false, .slice none 0 0] 45 (0, 0)) ∧ g0 < V.heap.size) := ⟨hb, hR, (Array.getElem?_eq_some_iff.1 hR).1⟩
  have H1 := (show Hid _ from iof_any x V hx)
  have HW : Hid ((-9223372036854775808 ≤ x ∧ x < 9223372036854775808) ∧ (-9223372036854775808 ≤ y ∧ y < 9223372036854775808) ∧ ((x * y).natAbs : Int) < 18446744073709551616 ^ 64) := ⟨hx, hy, hs⟩
  clear hb hVe hG hR hx hy hs
  go_enter Try.func20, Try.ntmps20
  go_upto_region 1 with fail
  rw [← HVe.out, ← HG.out]
  clear HVe HG
  go_wp2_with fail
  refine Calls.mono H1.out ?_
  rintro e w1 ⟨a1, n1, c1, rfl, hn1, hb1⟩
  have k1 : WAt w1 (decide (x < 0)) a1 n1 c1 x := ⟨_, hn1, IsW.of HW.out.1⟩
  obtain ⟨p1, hp1⟩ : ∃ p, p = decide (x < 0) := ⟨_, rfl⟩
  rw [← hp1] at k1
  rw [← hp1]
  have H2 := (show Hid _ from iof_any y w1 HW.out.2.1)
  have K1 : Hid (WAt w1 p1 a1 n1 c1 x ∧ Below V.heap.size V w1) := ⟨k1, hb1⟩
  clear H1 hn1 hb1 k1 hp1
  dsimp only
  go_wp2_with fail
  refine Calls.mono H2.out ?_
  rintro e w2 ⟨a2, n2, c2, rfl, hn2, hb2⟩
  have k2 : WAt w2 (decide (y < 0)) a2 n2 c2 y := ⟨_, hn2, IsW.of HW.out.2.1⟩
  obtain ⟨p2, hp2⟩ : ∃ p, p = decide (y < 0) := ⟨_, rfl⟩
  rw [← hp2] at k2
  rw [← hp2]
  obtain ⟨ys, hy1, hyW⟩ := K1.out.1.below hb2
  obtain ⟨vs, hv1, hvW⟩ := k2
  have H3 := (show Hid _ from imul_any p1 p2 _ _ _ _ _ _ _ _ w2 hy1 hv1)
  have K2 : Hid (IsW p1 ys x ∧ IsW p2 vs y ∧ Below V.heap.size V w2) := ⟨hyW, hvW, bthen K1.out.2 hb2⟩
  clear H2 hn2 hb2 hp2 hy1 hyW hv1 hvW K1
  dsimp only
  go_wp2_with fail
  refine Calls.mono H3.out ?_
  rintro e w3 ⟨q, a3, n3, c3, ls, err, rfl, hn, hRes, hb3⟩
  have this := hRes.got K2.out.1.2.1 K2.out.2.1.2.1
  rw [K2.out.1.2.2, K2.out.2.1.2.2] at this
  obtain ⟨h3, rfl⟩ := IsW.res this HW.out.2.2
  have hb13 := bthen K2.out.2.2 hb3
  have hb4 := balloc w3 (.cells #[.bool q, .slice a3 n3 c3] 45)
  have hR4 : (w3.alloc (.cells #[.bool q, .slice a3 n3 c3] 45)).heap[g0]? = some (.cells #[.bool false, .slice none 0 0] 45 (0, 0)) := (hb4.block _ (Nat.lt_of_lt_of_le HB.out.2.2 hb13.size)).trans ((hb13.block _ HB.out.2.2).trans HB.out.2.1)
  obtain ⟨⟨r0, f0⟩, ⟨r1, f1⟩, y0, y1⟩ := put2_cells16 hR4 (.bool q) (.slice a3 n3 c3)
  have HX : Hid (∀ w', w' = ((w3.alloc (.cells #[.bool q, .slice a3 n3 c3] 45)).setCell ⟨g0, 0, none⟩ (.bool q)).setCell ⟨g0, 1, none⟩ (.slice a3 n3 c3) → WAt w' q a3 n3 c3 (x * y) ∧ Below w.heap.size w w') := fun w' e => by
    subst e
    exact ⟨⟨ls, (hn.growD _).put2 r0 r1 _ _, h3⟩, put2_below (bthen (bthen HB.out.1 hb13) hb4) (Nat.le_of_eq HG0.out.symm) _ _⟩
  clear H3 K2 HW hn hRes hb3 this h3 hb13 hb4 hR4 HB
  dsimp only
  go_wp2_with fail
  exact bodyPost_ret (v := .agg #[.bool q, .slice a3 n3 c3]) (by simp [results, Try.results20, go_sem, y0, y1]) rfl ⟨_, _, _, _, rfl, (HX.out _ rfl).1, (HX.out _ rfl).2⟩
theorem small16 {x : Int} (h : -2305843009213693952 ≤ x ∧ x ≤ 2305843009213693952) : ((x.natAbs : Nat) : Int) < 18446744073709551616 ^ 63 := by
  have h1 : ((x.natAbs : Nat) : Int) < 18446744073709551616 := by omega
  exact Int.lt_of_lt_of_le h1 (by decide)
set_option maxRecDepth 20000 in
set_option maxHeartbeats 20000000 in
theorem x16weight_any (c : Cfg) (G H : Int) (w : World) : Calls Try.prog 13 #[.agg #[.int .i64 c.T, .int .i64 c.D, .int .i64 c.L, .int .i64 c.G, .int .i64 c.N, .int .i64 c.E, .int .i64 c.S, .int .i64 c.C], .agg #[.int .i64 G, .int .i64 H]] w fun e w' => WeightT16 c G H w e w' := by
  have hV1 := balloc w (.cells #[.int .i64 c.T, .int .i64 c.D, .int .i64 c.L, .int .i64 c.G, .int .i64 c.N, .int .i64 c.E, .int .i64 c.S, .int .i64 c.C] 23)
  have hV2 := balloc (w.alloc (.cells #[.int .i64 c.T, .int .i64 c.D, .int .i64 c.L, .int .i64 c.G, .int .i64 c.N, .int .i64 c.E, .int .i64 c.S, .int .i64 c.C] 23)) (.cells #[.int .i64 G, .int .i64 H] 31)
  have hv := (CVar.new w c).below hV2
  have hs : SVar ((w.alloc (.cells #[.int .i64 c.T, .int .i64 c.D, .int .i64 c.L, .int .i64 c.G, .int .i64 c.N, .int .i64 c.E, .int .i64 c.S, .int .i64 c.C] 23)).alloc (.cells #[.int .i64 G, .int .i64 H] 31)) (w.heap.size + 1) G H := by
    have := heap_alloc_new (w.alloc (.cells #[.int .i64 c.T, .int .i64 c.D, .int .i64 c.L, .int .i64 c.G, .int .i64 c.N, .int .i64 c.E, .int .i64 c.S, .int .i64 c.C] 23)) (.cells #[.int .i64 G, .int .i64 H] 31)
    rw [show (w.alloc (.cells #[.int .i64 c.T, .int .i64 c.D, .int .i64 c.L, .int .i64 c.G, .int .i64 c.N, .int .i64 c.E, .int .i64 c.S, .int .i64 c.C] 23)).heap.size = w.heap.size + 1 by simp] at this
    exact this
  have hb := bthen hV1 hV2
  obtain ⟨V, hVe⟩ : ∃ V, V = (w.alloc (.cells #[.int .i64 c.T, .int .i64 c.D, .int .i64 c.L, .int .i64 c.G, .int .i64 c.N, .int .i64 c.E, .int .i64 c.S, .int .i64 c.C] 23)).alloc (.cells #[.int .i64 G, .int .i64 H] 31) := ⟨_, rfl⟩
  have HVe : Hid (V = (w.alloc (.cells #[.int .i64 c.T, .int .i64 c.D, .int .i64 c.L, .int .i64 c.G, .int .i64 c.N, .int .i64 c.E, .int .i64 c.S, .int .i64 c.C] 23)).alloc (.cells #[.int .i64 G, .int .i64 H] 31)) := hVe
  obtain ⟨g, hG⟩ : ∃ g, g = w.heap.size := ⟨_, rfl⟩
  obtain ⟨s, hS⟩ : ∃ s, s = w.heap.size + 1 := ⟨_, rfl⟩
  have HG : Hid (g = w.heap.size) := hG
  have HSs : Hid (s = w.heap.size + 1) := hS
  rw [← hVe] at hb hv hs
  rw [← hG] at hv
  rw [← hS] at hs
  have HB : Hid (Below w.heap.size w V ∧ CVar V g c ∧ SVar V s G H) := ⟨hb, hv, hs⟩
  have HC := (show Hid _ from x16right_any c V)
  have HC2 : Hid (∀ wx, Calls Try.prog 19 #[.agg #[.int .i64 G, .int .i64 H]] wx fun e w' => ∃ b, e = .returned (.bool b) ∧ (b = true ↔ SumOk G H) ∧ Below wx.heap.size wx w') := fun wx => x16sum_any G H wx
  obtain ⟨x0, x1, x2, x3, x4, x5, x6, x7⟩ := hv.cell
  obtain ⟨y0, y1⟩ := hs.cell
  clear hV1 hV2 hb hVe hG hS hv hs
  go_enter Try.func13, Try.ntmps13
  go_upto_region 1 with fail
  rw [← HVe.out, ← HSs.out, ← HG.out]
  clear HVe HG HSs
  go_wp2_with fail
  refine Calls.mono HC.out ?_
  rintro e w1 ⟨z, rfl, hz, hb1⟩
  have hv1 := HB.out.2.1.below hb1
  have hs1 := HB.out.2.2.below hb1
  have ht1 := bthen HB.out.1 hb1
  have bad : ∀ wx, Below w.heap.size w wx → ¬ (CfgOk c ∧ SumOk G H) → Hid (WeightT16 c G H w (.returned (.tuple #[.int .i64 0, .int .i64 1])) wx) := fun wx hb h => ⟨0, 1, rfl, .inl ⟨h, rfl, rfl⟩, hb⟩
  clear x0 x1 x2 x3 x4 x5 x6 x7 y0 y1 HC HB hb1
  dsimp only
  cases z with
  | false =>
    have HX := bad w1 ht1 (fun e => by have := hz.2 e.1; cases this)
    clear hz bad HC2 hv1 hs1 ht1
    go_wp2
    go_ret2
    exact HX.out
  | true =>
  have HOK : Hid (CfgOk c) := hz.1 rfl
  have HB1 : Hid (Below w.heap.size w w1 ∧ CVar w1 g c ∧ SVar w1 s G H) := ⟨ht1, hv1, hs1⟩
  obtain ⟨y0, y1⟩ := hs1.cell
  clear hz hv1 hs1 ht1
  go_wp2_with fail
  refine Calls.mono (HC2.out _) ?_
  rintro e w2 ⟨y, rfl, hy, hb2⟩
  have hv2 := HB1.out.2.1.below hb2
  have hs2 := HB1.out.2.2.below hb2
  have ht2 := bthen HB1.out.1 hb2
  clear y0 y1 HC2 HB1 hb2
  dsimp only
  cases y with
  | false =>
    have HX := bad w2 ht2 (fun e => by have := hy.2 e.2; cases this)
    clear hy bad hv2 hs2 ht2
    go_wp2
    go_ret2
    exact HX.out
  | true =>
  have hok := HOK.out
  have hsm := hy.1 rfl
  clear bad hy HOK
  obtain ⟨W, hWe⟩ : ∃ W, W = w2 := ⟨_, rfl⟩
  subst hWe
  have hnum := num_size hok hsm
  have hden := den_pos16 hok hsm
  have hwt := weightV_small hok hsm
  have q1 := hok.l
  have q2 := hok.e
  have q3 := hok.n
  have z0 := hv2.lt
  have z1 := hs2.lt
  have x0 := hs2.cell.1
  have x1 := hv2.cell.2.2.2.2.1
  have x2 := hs2.cell.2
  have x3 := hv2.cell.2.2.1
  have x4 := hv2.cell.2.2.2.2.2.1
  have HM : Hid (Below w.heap.size w W ∧ CfgOk c ∧ SumOk G H) := ⟨ht2, hok, hsm⟩
  have hsG := hsm.1
  have hsG2 := hsm.2.1
  have hsH := hsm.2.2
  obtain ⟨A1, hA1⟩ : ∃ A1, A1 = -G := ⟨_, rfl⟩
  obtain ⟨A2, hA2⟩ : ∃ A2, A2 = c.N := ⟨_, rfl⟩
  obtain ⟨A3, hA3⟩ : ∃ A3, A3 = H + c.L := ⟨_, rfl⟩
  obtain ⟨A4, hA4⟩ : ∃ A4, A4 = c.E := ⟨_, rfl⟩
  obtain ⟨X, hX⟩ : ∃ X, X = A1 * A2 := ⟨_, rfl⟩
  obtain ⟨Y, hY⟩ : ∃ Y, Y = A3 * A4 := ⟨_, rfl⟩
  have HXY : Hid (X / Y = weightV c G H) := by show _ = _; rw [hX, hY, hA1, hA2, hA3, hA4]; rfl
  have hXs : -1152921504606846976 ≤ X ∧ X ≤ 1152921504606846976 := by rw [hX, hA1, hA2]; exact hnum
  have hYs : 0 < Y ∧ Y ≤ 2199023255552 := by rw [hY, hA3, hA4]; exact ⟨hden.2.1, hden.2.2.1⟩
  have b1 : (-9223372036854775808 ≤ A1 ∧ A1 < 9223372036854775808) := by omega
  have b2 : (-9223372036854775808 ≤ A2 ∧ A2 < 9223372036854775808) := by omega
  have b3 : (-9223372036854775808 ≤ A3 ∧ A3 < 9223372036854775808) := by omega
  have b4 : (-9223372036854775808 ≤ A4 ∧ A4 < 9223372036854775808) := by omega
  rw [← hA2] at x1
  rw [← hA4] at x4
  have HRB : Hid (Below W.heap.size W W) := Below.refl _ _
  have HP1 : Hid (∀ wx : World, Below W.heap.size W wx → Calls Try.prog 20 #[.int .i64 A1, .int .i64 A2] wx fun e w' => ∃ p a l k, e = .returned (.agg #[.bool p, .slice a l k]) ∧ Hid (WAt w' p a l k X ∧ Below W.heap.size W w') ∧ (w'.cell? ⟨s, 0, none⟩ = some (.int .i64 G) ∧ w'.cell? ⟨g, 4, none⟩ = some (.int .i64 A2) ∧ w'.cell? ⟨s, 1, none⟩ = some (.int .i64 H) ∧ w'.cell? ⟨g, 2, none⟩ = some (.int .i64 c.L) ∧ w'.cell? ⟨g, 5, none⟩ = some (.int .i64 A4)) ∧ (g < w'.heap.size ∧ s < w'.heap.size) ∧ (∀ b o, b < wx.heap.size → w'.cell? ⟨b, o, none⟩ = wx.cell? ⟨b, o, none⟩) ∧ (∀ b o, b < wx.heap.size → w'.frozen? ⟨b, o, none⟩ = wx.frozen? ⟨b, o, none⟩) ∧ (∀ b, b < wx.heap.size → b < w'.heap.size)) := by
    intro wx hbx
    refine (x16prod_any A1 A2 wx b1 b2 (by rw [← hX]; exact big16 (by omega))).mono ?_
    rintro e w' ⟨p, a, l, k, rfl, hw, hb⟩
    have hb' := bthen hbx hb
    rw [← hX] at hw
    exact ⟨_, _, _, _, rfl, ⟨hw, hb'⟩, ⟨bkeep hb' x0 rfl, bkeep hb' x1 rfl, bkeep hb' x2 rfl, bkeep hb' x3 rfl, bkeep hb' x4 rfl⟩, ⟨Nat.lt_of_lt_of_le z0 hb'.size, Nat.lt_of_lt_of_le z1 hb'.size⟩, bfactsD hb⟩
  have HP2 : Hid (∀ (wx : World) p1 a1 l1 k1, WAt wx p1 a1 l1 k1 X → Below W.heap.size W wx → Calls Try.prog 20 #[.int .i64 A3, .int .i64 A4] wx fun e w' => ∃ p a l k, e = .returned (.agg #[.bool p, .slice a l k]) ∧ Hid (WAt w' p1 a1 l1 k1 X ∧ WAt w' p a l k Y ∧ Below W.heap.size W w') ∧ (w'.cell? ⟨s, 0, none⟩ = some (.int .i64 G) ∧ w'.cell? ⟨g, 4, none⟩ = some (.int .i64 A2) ∧ w'.cell? ⟨s, 1, none⟩ = some (.int .i64 H) ∧ w'.cell? ⟨g, 2, none⟩ = some (.int .i64 c.L) ∧ w'.cell? ⟨g, 5, none⟩ = some (.int .i64 A4)) ∧ (g < w'.heap.size ∧ s < w'.heap.size) ∧ (∀ b o, b < wx.heap.size → w'.cell? ⟨b, o, none⟩ = wx.cell? ⟨b, o, none⟩) ∧ (∀ b o, b < wx.heap.size → w'.frozen? ⟨b, o, none⟩ = wx.frozen? ⟨b, o, none⟩) ∧ (∀ b, b < wx.heap.size → b < w'.heap.size)) := by
    intro wx p1 a1 l1 k1 hw1 hbx
    refine (x16prod_any A3 A4 wx b3 b4 (by rw [← hY]; exact big16 (by omega))).mono ?_
    rintro e w' ⟨p, a, l, k, rfl, hw, hb⟩
    have hb' := bthen hbx hb
    rw [← hY] at hw
    exact ⟨_, _, _, _, rfl, ⟨hw1.below hb, hw, hb'⟩, ⟨bkeep hb' x0 rfl, bkeep hb' x1 rfl, bkeep hb' x2 rfl, bkeep hb' x3 rfl, bkeep hb' x4 rfl⟩, ⟨Nat.lt_of_lt_of_le z0 hb'.size, Nat.lt_of_lt_of_le z1 hb'.size⟩, bfactsD hb⟩
  have HFl : Hid (∀ (wx : World) p1 a1 l1 k1 p2 a2 l2 k2, WAt wx p1 a1 l1 k1 X → WAt wx p2 a2 l2 k2 Y → Below W.heap.size W wx → Calls Try.prog 23 #[.agg #[.bool p1, .slice a1 l1 k1], .agg #[.bool p2, .slice a2 l2 k2]] wx fun e w' => ∃ q qa qn qc r ra rn rc, e = .returned (.tuple #[.agg #[.bool q, .slice qa qn qc], .agg #[.bool r, .slice ra rn rc], .int .i64 0]) ∧ Hid ((∃ qs, Nums w' qa qn qc qs ∧ IsW q qs (X / Y)) ∧ (∃ rs, Nums w' ra rn rc rs ∧ IsW r rs (X % Y)) ∧ Below W.heap.size W w') ∧ (w'.cell? ⟨s, 0, none⟩ = some (.int .i64 G) ∧ w'.cell? ⟨g, 4, none⟩ = some (.int .i64 A2) ∧ w'.cell? ⟨s, 1, none⟩ = some (.int .i64 H) ∧ w'.cell? ⟨g, 2, none⟩ = some (.int .i64 c.L) ∧ w'.cell? ⟨g, 5, none⟩ = some (.int .i64 A4)) ∧ (g < w'.heap.size ∧ s < w'.heap.size) ∧ (∀ b o, b < wx.heap.size → w'.cell? ⟨b, o, none⟩ = wx.cell? ⟨b, o, none⟩) ∧ (∀ b o, b < wx.heap.size → w'.frozen? ⟨b, o, none⟩ = wx.frozen? ⟨b, o, none⟩) ∧ (∀ b, b < wx.heap.size → b < w'.heap.size)) := by
    rintro wx p1 a1 l1 k1 p2 a2 l2 k2 ⟨xs, hx, hxW⟩ ⟨ys, hy, hyW⟩ hbx
    refine (ifloor_any p1 p2 _ _ _ _ _ _ _ _ wx hx hy).mono ?_
    rintro e w' ⟨q, qa, qn, qc, qs, r, ra, rn, rc, rs, err, rfl, ⟨hQ, hR⟩, hF, hb⟩
    obtain ⟨rfl, f1, f2⟩ := floor_isW hxW hyW hYs.1 (small16 (by omega)) hF
    have hb' := bthen hbx hb
    exact ⟨q, qa, qn, qc, r, ra, rn, rc, rfl, ⟨⟨qs, hQ, f1⟩, ⟨rs, hR, f2⟩, hb'⟩, ⟨bkeep hb' x0 rfl, bkeep hb' x1 rfl, bkeep hb' x2 rfl, bkeep hb' x3 rfl, bkeep hb' x4 rfl⟩, ⟨Nat.lt_of_lt_of_le z0 hb'.size, Nat.lt_of_lt_of_le z1 hb'.size⟩, bfactsD hb⟩
  have SK : Hid (∀ w', Below W.heap.size W w' → (w'.cell? ⟨s, 0, none⟩ = some (.int .i64 G) ∧ w'.cell? ⟨g, 4, none⟩ = some (.int .i64 A2) ∧ w'.cell? ⟨s, 1, none⟩ = some (.int .i64 H) ∧ w'.cell? ⟨g, 2, none⟩ = some (.int .i64 c.L) ∧ w'.cell? ⟨g, 5, none⟩ = some (.int .i64 A4))) := fun w' hb' => ⟨bkeep hb' x0 rfl, bkeep hb' x1 rfl, bkeep hb' x2 rfl, bkeep hb' x3 rfl, bkeep hb' x4 rfl⟩
  have hwn : RowKit.wrap64 (-G) = A1 := by rw [← hA1]; unfold RowKit.wrap64; omega
  have hwm : IntKind.i64.wrap (-G) = A1 := by rw [← hA1, IntKind.wrap_i64]; omega
  have hwp : RowKit.wrap64 (H + c.L) = A3 := by rw [← hA3]; unfold RowKit.wrap64; omega
  have hwq : IntKind.i64.wrap (H + c.L) = A3 := by rw [← hA3, IntKind.wrap_i64]; omega
  have ne00 := World.new_ne W ⟨s, 0, none⟩ x0
  have ne01 := World.new_ne W ⟨g, 4, none⟩ x1
  have ne02 := World.new_ne W ⟨s, 1, none⟩ x2
  have ne03 := World.new_ne W ⟨g, 2, none⟩ x3
  have ne04 := World.new_ne W ⟨g, 5, none⟩ x4
  have HV2 : Hid (-1099511627776 ≤ X / Y ∧ X / Y ≤ 1099511627776) := by show _ ∧ _; rw [HXY.out]; exact hwt
  clear hok hsm hnum hden hwt q1 q2 q3 hsG hsG2 hsH hX hY hA1 hA2 hA3 hA4 hXs hYs b1 b2 b3 b4 hv2 hs2 ht2
  go_wp2_with fail
  go_cut [7, 8] (fun p12 p13 wx => Two7 W (X / Y) (X % Y) p12 p13 wx)
  case first =>
    clear HM HXY HV2
    go_region_held3 (fun w' => (w'.cell? ⟨s, 0, none⟩ = some (.int .i64 G) ∧ w'.cell? ⟨g, 4, none⟩ = some (.int .i64 A2) ∧ w'.cell? ⟨s, 1, none⟩ = some (.int .i64 H) ∧ w'.cell? ⟨g, 2, none⟩ = some (.int .i64 c.L) ∧ w'.cell? ⟨g, 5, none⟩ = some (.int .i64 A4))) ((refine SK.out _ ?_; (repeat (first | with_reducible exact HRB.out | with_reducible exact hR.out.2.2 | with_reducible exact hB.out.2.2 | with_reducible exact hA.out.2 | with_reducible refine bdrawD ?_ | with_reducible refine bgrowD ?_ _ | with_reducible refine put2_below7 ?_ ?_ _ _ | omega))))
      (first
      | (go_at_call 20; with_reducible refine Calls.mono (HP1.out _ ?_) ?_; (focus (repeat (first | exact HRB.out | refine bdrawD ?_ | refine bgrowD ?_ _))); rintro e w3 ⟨p1, a1, l1, k1, rfl, hA, ⟨n0, n1, n2, n3, n4⟩, ⟨nz0, nz1⟩, hc3, hf3, hs3⟩; have ne30 := World.new_ne w3 ⟨s, 0, none⟩ n0; have ne31 := World.new_ne w3 ⟨g, 4, none⟩ n1; have ne32 := World.new_ne w3 ⟨s, 1, none⟩ n2; have ne33 := World.new_ne w3 ⟨g, 2, none⟩ n3; have ne34 := World.new_ne w3 ⟨g, 5, none⟩ n4; have zz3 := hA.out.2.size; (try have k30 := hs3 (W.heap.size) (by first | omega | (simp; done) | (simp; omega))); (try have m300 := hc3 (W.heap.size) 0 (by first | omega | (simp; done) | (simp; omega))); (try have f300 := hf3 (W.heap.size) 0 (by first | omega | (simp; done) | (simp; omega))); (try have m301 := hc3 (W.heap.size) 1 (by first | omega | (simp; done) | (simp; omega))); (try have f301 := hf3 (W.heap.size) 1 (by first | omega | (simp; done) | (simp; omega))); (try have k31 := hs3 (W.heap.size + 1) (by first | omega | (simp; done) | (simp; omega))); (try have m310 := hc3 (W.heap.size + 1) 0 (by first | omega | (simp; done) | (simp; omega))); (try have f310 := hf3 (W.heap.size + 1) 0 (by first | omega | (simp; done) | (simp; omega))); (try have m311 := hc3 (W.heap.size + 1) 1 (by first | omega | (simp; done) | (simp; omega))); (try have f311 := hf3 (W.heap.size + 1) 1 (by first | omega | (simp; done) | (simp; omega))); clear hc3 hf3 hs3)
      | (go_at_call 20; with_reducible refine Calls.mono (HP2.out _ p1 a1 l1 k1 ?_ ?_) ?_; (focus (repeat (first | exact hA.out.1 | refine WAt.drew ?_ | refine WAt.grow ?_ _))); (focus (repeat (first | exact hA.out.2 | refine bdrawD ?_ | refine bgrowD ?_ _))); rintro e w6 ⟨p2, a2, l2, k2, rfl, hB, ⟨o0, o1, o2, o3, o4⟩, ⟨oz0, oz1⟩, hc6, hf6, hs6⟩; have ne60 := World.new_ne w6 ⟨s, 0, none⟩ o0; have ne61 := World.new_ne w6 ⟨g, 4, none⟩ o1; have ne62 := World.new_ne w6 ⟨s, 1, none⟩ o2; have ne63 := World.new_ne w6 ⟨g, 2, none⟩ o3; have ne64 := World.new_ne w6 ⟨g, 5, none⟩ o4; have zz6 := hB.out.2.2.size; (try have k60 := hs6 (W.heap.size) (by first | omega | (simp; done) | (simp; omega))); (try have m600 := hc6 (W.heap.size) 0 (by first | omega | (simp; done) | (simp; omega))); (try have f600 := hf6 (W.heap.size) 0 (by first | omega | (simp; done) | (simp; omega))); (try have m601 := hc6 (W.heap.size) 1 (by first | omega | (simp; done) | (simp; omega))); (try have f601 := hf6 (W.heap.size) 1 (by first | omega | (simp; done) | (simp; omega))); (try have k61 := hs6 (W.heap.size + 1) (by first | omega | (simp; done) | (simp; omega))); (try have m610 := hc6 (W.heap.size + 1) 0 (by first | omega | (simp; done) | (simp; omega))); (try have f610 := hf6 (W.heap.size + 1) 0 (by first | omega | (simp; done) | (simp; omega))); (try have m611 := hc6 (W.heap.size + 1) 1 (by first | omega | (simp; done) | (simp; omega))); (try have f611 := hf6 (W.heap.size + 1) 1 (by first | omega | (simp; done) | (simp; omega))); (try have k62 := hs6 (w3.heap.size) (by first | omega | (simp; done) | (simp; omega))); (try have m620 := hc6 (w3.heap.size) 0 (by first | omega | (simp; done) | (simp; omega))); (try have f620 := hf6 (w3.heap.size) 0 (by first | omega | (simp; done) | (simp; omega))); (try have m621 := hc6 (w3.heap.size) 1 (by first | omega | (simp; done) | (simp; omega))); (try have f621 := hf6 (w3.heap.size) 1 (by first | omega | (simp; done) | (simp; omega))); (try have k63 := hs6 (w3.heap.size + 1) (by first | omega | (simp; done) | (simp; omega))); (try have m630 := hc6 (w3.heap.size + 1) 0 (by first | omega | (simp; done) | (simp; omega))); (try have f630 := hf6 (w3.heap.size + 1) 0 (by first | omega | (simp; done) | (simp; omega))); (try have m631 := hc6 (w3.heap.size + 1) 1 (by first | omega | (simp; done) | (simp; omega))); (try have f631 := hf6 (w3.heap.size + 1) 1 (by first | omega | (simp; done) | (simp; omega))); clear hc6 hf6 hs6)
      | (go_at_call 23; with_reducible refine Calls.mono (HFl.out _ p1 a1 l1 k1 p2 a2 l2 k2 ?_ ?_ ?_) ?_; (focus (repeat (first | exact hB.out.1 | refine WAt.drew ?_ | refine WAt.grow ?_ _))); (focus (repeat (first | exact hB.out.2.1 | refine WAt.drew ?_ | refine WAt.grow ?_ _))); (focus (repeat (first | exact hB.out.2.2 | refine bdrawD ?_ | refine bgrowD ?_ _))); rintro e w9 ⟨q, qa, qn, qc, r, ra, rn, rc, rfl, hR, ⟨r0, r1, r2, r3, r4⟩, ⟨rz0, rz1⟩, hc9, hf9, hs9⟩; have ne90 := World.new_ne w9 ⟨s, 0, none⟩ r0; have ne91 := World.new_ne w9 ⟨g, 4, none⟩ r1; have ne92 := World.new_ne w9 ⟨s, 1, none⟩ r2; have ne93 := World.new_ne w9 ⟨g, 2, none⟩ r3; have ne94 := World.new_ne w9 ⟨g, 5, none⟩ r4; have zz9 := hR.out.2.2.size; (try have k90 := hs9 (W.heap.size) (by first | omega | (simp; done) | (simp; omega))); (try have m900 := hc9 (W.heap.size) 0 (by first | omega | (simp; done) | (simp; omega))); (try have f900 := hf9 (W.heap.size) 0 (by first | omega | (simp; done) | (simp; omega))); (try have m901 := hc9 (W.heap.size) 1 (by first | omega | (simp; done) | (simp; omega))); (try have f901 := hf9 (W.heap.size) 1 (by first | omega | (simp; done) | (simp; omega))); (try have k91 := hs9 (W.heap.size + 1) (by first | omega | (simp; done) | (simp; omega))); (try have m910 := hc9 (W.heap.size + 1) 0 (by first | omega | (simp; done) | (simp; omega))); (try have f910 := hf9 (W.heap.size + 1) 0 (by first | omega | (simp; done) | (simp; omega))); (try have m911 := hc9 (W.heap.size + 1) 1 (by first | omega | (simp; done) | (simp; omega))); (try have f911 := hf9 (W.heap.size + 1) 1 (by first | omega | (simp; done) | (simp; omega))); (try have k92 := hs9 (w3.heap.size) (by first | omega | (simp; done) | (simp; omega))); (try have m920 := hc9 (w3.heap.size) 0 (by first | omega | (simp; done) | (simp; omega))); (try have f920 := hf9 (w3.heap.size) 0 (by first | omega | (simp; done) | (simp; omega))); (try have m921 := hc9 (w3.heap.size) 1 (by first | omega | (simp; done) | (simp; omega))); (try have f921 := hf9 (w3.heap.size) 1 (by first | omega | (simp; done) | (simp; omega))); (try have k93 := hs9 (w3.heap.size + 1) (by first | omega | (simp; done) | (simp; omega))); (try have m930 := hc9 (w3.heap.size + 1) 0 (by first | omega | (simp; done) | (simp; omega))); (try have f930 := hf9 (w3.heap.size + 1) 0 (by first | omega | (simp; done) | (simp; omega))); (try have m931 := hc9 (w3.heap.size + 1) 1 (by first | omega | (simp; done) | (simp; omega))); (try have f931 := hf9 (w3.heap.size + 1) 1 (by first | omega | (simp; done) | (simp; omega))); (try have k94 := hs9 (w6.heap.size) (by first | omega | (simp; done) | (simp; omega))); (try have m940 := hc9 (w6.heap.size) 0 (by first | omega | (simp; done) | (simp; omega))); (try have f940 := hf9 (w6.heap.size) 0 (by first | omega | (simp; done) | (simp; omega))); (try have m941 := hc9 (w6.heap.size) 1 (by first | omega | (simp; done) | (simp; omega))); (try have f941 := hf9 (w6.heap.size) 1 (by first | omega | (simp; done) | (simp; omega))); (try have k95 := hs9 (w6.heap.size + 1) (by first | omega | (simp; done) | (simp; omega))); (try have m950 := hc9 (w6.heap.size + 1) 0 (by first | omega | (simp; done) | (simp; omega))); (try have f950 := hf9 (w6.heap.size + 1) 0 (by first | omega | (simp; done) | (simp; omega))); (try have m951 := hc9 (w6.heap.size + 1) 1 (by first | omega | (simp; done) | (simp; omega))); (try have f951 := hf9 (w6.heap.size + 1) 1 (by first | omega | (simp; done) | (simp; omega))); clear hc9 hf9 hs9))
    all_goals
      clear HP1 HP2 HFl HRB SK
      go_wp2_with fail
      go_meet
      case rel =>
      obtain ⟨⟨qs, hQ, hqW⟩, ⟨rs, hRr, hrW⟩, hbM⟩ := hR.out
      first
        | with_reducible exact two_a hQ hqW hRr hrW hbM
        | with_reducible exact two_b hQ hqW hRr hrW hbM
        | (with_reducible refine two_c (p := false) (sa := none) (sn := 0) (sc := 0) hQ hqW hRr hrW hbM ?_ ?_ ?_ ?_ ?_
           · go_simp
           · go_simp
           · go_simp
           · go_simp
           · first | omega | (simp; done) | (simp; omega))
        | (with_reducible refine two_d (p := false) (sa := none) (sn := 0) (sc := 0) hQ hqW hRr hrW hbM ?_ ?_ ?_ ?_ ?_
           · go_simp
           · go_simp
           · go_simp
           · go_simp
           · first | omega | (simp; done) | (simp; omega))
        | (with_reducible refine two_e (p := false) (sa := none) (sn := 0) (sc := 0) (p' := false) (sa' := none) (sn' := 0) (sc' := 0) hQ hqW hRr hrW hbM ?_ ?_ ?_ ?_ ?_ ?_ ?_ ?_ ?_ ?_ ?_
           · go_simp
           · go_simp
           · go_simp
           · go_simp
           · first | omega | (simp; done) | (simp; omega)
           · go_simp
           · go_simp
           · go_simp
           · go_simp
           · first | omega | (simp; done) | (simp; omega)
           · first | omega | (simp; done) | (simp; omega))
  case rest =>
    obtain ⟨g1, g2, rfl, rfl, F1, -, hbc⟩ := hcut
    have hBc := bthen HM.out.1 hbc
    clear HP1 HP2 HFl HRB SK z0 z1 hbc x0 x1 x2 x3 x4 ne00 ne01 ne02 ne03 ne04 hwn hwm hwp hwq
    obtain ⟨n1, a1, l1, k1, L1, ⟨c0, c1⟩, -, hn1, hr1, hv1⟩ := F1
    obtain ⟨Z, hZe⟩ : ∃ Z, Z = X / Y := ⟨_, rfl⟩
    rw [← hZe] at hv1 HV2 HXY
    have hW : IsW n1 L1 Z := ⟨hn1.digs, hr1, hv1⟩
    have hlim := HV2.out
    have hz := hW.small.2 (by unfold fitB; simp; omega)
    have HS := (show Hid _ from ismall_any n1 a1 l1 k1 L1 wc hn1)
    rw [hz] at HS
    have hw : IntKind.i64.wrap Z = Z := by rw [IntKind.wrap_i64]; omega
    have HX : Hid (∀ wx, Below wc.heap.size wc wx → WeightT16 c G H w (.returned (.tuple #[.int .i64 Z, .int .i64 0])) wx) := fun wx hb => ⟨Z, 0, rfl, .inr ⟨HM.out.2, HXY.out, rfl⟩, bthen hBc hb⟩
    clear hn1 hr1 hv1 hW hlim hz hZe HM HV2 HXY hBc
    go_wp2_with fail
    refine Calls.mono HS.out ?_
    rintro e w8 ⟨rfl, hb8⟩
    have HY := (show Hid _ from HX.out w8 hb8)
    clear HS hb8 HX c0 c1
    dsimp only
    go_wp2
    go_ret2
    exact HY.out
end Go.Proofs.Ytpeefhkadeoioaa

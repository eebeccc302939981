/-
  Stage 17's laws: the walk of Both. Written by mk/p17.py.
-/
import Derived.Test.YtchmlfjjgehbkaaR17F
import Derived.Test.YtchmlfjjgehbkaaR8P
import Derived.Test.YtchmlfjjgehbkaaR8C
namespace Go.Proofs.Ytchmlfjjgehbkaa
open Go.RowKit

theorem one17 {vs : List Int} (h : IsN vs 1) : vs.length = 1 := by
  have h0 : IsW false [] 0 := IsW.of (x := 0) (by decide)
  have h1 : IsN (ofZ (sz 1)) 1 := (IsW.of (x := 1) (by decide)).mag
  have e : vs = ofZ (sz 1) := ((ToldF.good (f := none) (x := 0) rfl h0 h).unique (ToldF.good rfl h0 h1)).2.2.1
  rw [e]
  decide
theorem none17 {l A B : Int} {m : Bool} {us vs : List Int} {err : Int} (hP : GainArg l 0 0 A B) (h : FU17 (GainArg l 0 0 A B) (gainQ l 0 0 A B) m us vs err) : err = 0 ∧ us.length = 0 ∧ vs.length = 1 := by
  rcases h with ⟨-, h1, h2, h3⟩ | ⟨h0, -⟩
  · obtain ⟨z1, z2⟩ := low_zero17 (gainQ_den hP).1
    rw [gainQ_none, z1] at h2
    rw [gainQ_none, z2] at h3
    exact ⟨h1, h2.empty.2 rfl, one17 h3⟩
  · exact absurd hP h0
set_option maxRecDepth 20000 in
set_option maxHeartbeats 12800000 in
theorem both17_walk (OS : ScoOk17) (OG : GaiOk17) (l G H A B : Int) (w : World) (h0 : (-9223372036854775808 ≤ l ∧ l < 9223372036854775808)) (h1 : (-9223372036854775808 ≤ G ∧ G < 9223372036854775808)) (h2 : (-9223372036854775808 ≤ H ∧ H < 9223372036854775808)) (h3 : (-9223372036854775808 ≤ A ∧ A < 9223372036854775808)) (h4 : (-9223372036854775808 ≤ B ∧ B < 9223372036854775808)) : Calls Try.prog 4 #[.int .i64 l, .agg #[.int .i64 (G), .int .i64 (H)], .agg #[.int .i64 (A), .int .i64 (B)]] w fun e w' => e = .returned (.bool true) ∧ Below w.heap.size w w' := by
  have hv2 := balloc (w.alloc (.cells #[.int .i64 G, .int .i64 H] 23)) (.cells #[.int .i64 A, .int .i64 B] 23)
  have hb := bthen (balloc w (.cells #[.int .i64 G, .int .i64 H] 23)) hv2
  obtain ⟨V, hVe⟩ : ∃ V, V = (w.alloc (.cells #[.int .i64 G, .int .i64 H] 23)).alloc (.cells #[.int .i64 A, .int .i64 B] 23) := ⟨_, rfl⟩
  have HVe : Hid (V = (w.alloc (.cells #[.int .i64 G, .int .i64 H] 23)).alloc (.cells #[.int .i64 A, .int .i64 B] 23)) := hVe
  obtain ⟨g, hg⟩ : ∃ g, g = w.heap.size := ⟨_, rfl⟩
  have HG : Hid (g = w.heap.size) := hg
  have hs : SVar V g G H := by rw [hVe, hg]; exact SVar.below (heap_alloc_new w _) hv2
  have ht : SVar V (g + 1) A B := by
    have := heap_alloc_new (w.alloc (.cells #[.int .i64 G, .int .i64 H] 23)) (.cells #[.int .i64 A, .int .i64 B] 23)
    rw [hVe, hg]
    simpa [SVar] using this
  rw [← hVe] at hb
  have HB : Hid (Below w.heap.size w V) := hb
  obtain ⟨x0, x1⟩ := hs.cell
  obtain ⟨y0, y1⟩ := ht.cell
  clear hb hVe hg hs ht hv2
  have HA := (show Hid (∀ wx : World, _) from fun wx => awake17_any OS wx)
  have H1 := (show Hid (∀ wx : World, _) from fun wx => OG l G H A B wx h0 h1 h2 h3 h4)
  have HW : Hid ((-9223372036854775808 ≤ l ∧ l < 9223372036854775808) ∧ (-9223372036854775808 ≤ A ∧ A < 9223372036854775808) ∧ (-9223372036854775808 ≤ B ∧ B < 9223372036854775808)) := ⟨h0, h3, h4⟩
  clear h0 h1 h2 h3 h4
  go_enter Try.func4, Try.ntmps4
  go_upto_region 1 with fail
  rw [← HVe.out, ← HG.out]
  clear HVe HG
  go_wp2_with fail
  refine Calls.mono (HA.out _) ?_
  rintro e w1 ⟨rfl, hb1⟩
  replace x0 := bkeep hb1 x0 rfl
  replace x1 := bkeep hb1 x1 rfl
  replace y0 := bkeep hb1 y0 rfl
  replace y1 := bkeep hb1 y1 rfl
  have HB1 : Hid (Below w.heap.size w w1) := bthen HB.out hb1
  clear hb1 HA HB
  dsimp only
  go_wp2_with fail
  refine Calls.mono (H1.out _) ?_
  rintro e w2 hh
  obtain ⟨m2, p2, k2, n2, p2', k2', n2', us2, vs2, err2, rfl, u2, v2, hU2, hb⟩ := hh.told
  have hn := balloc w2 (.cells #[.bool m2, .slice p2 k2 n2, .slice p2' k2' n2'] 30)
  obtain ⟨W2, hW⟩ : ∃ W2, W2 = w2.alloc (.cells #[.bool m2, .slice p2 k2 n2, .slice p2' k2' n2'] 30) := ⟨_, rfl⟩
  obtain ⟨s2, hs⟩ : ∃ s2, s2 = w2.heap.size := ⟨_, rfl⟩
  have hbn := bthen hb hn
  obtain ⟨c20, c21, c22, -, -, -⟩ := Cell3.new w2 m2 p2 p2' k2 n2 k2' n2'
  replace x0 := bkeep hbn x0 rfl
  replace x1 := bkeep hbn x1 rfl
  replace y0 := bkeep hbn y0 rfl
  replace y1 := bkeep hbn y1 rfl
  replace u2 := u2.below hn
  replace v2 := v2.below hn
  have HW2 : Hid (w2.alloc (.cells #[.bool m2, .slice p2 k2 n2, .slice p2' k2' n2'] 30) = W2 ∧ w2.heap.size = s2) := ⟨hW.symm, hs.symm⟩
  have HB2 : Hid (Below w.heap.size w (w2.alloc (.cells #[.bool m2, .slice p2 k2 n2, .slice p2' k2' n2'] 30))) := bthen HB1.out hbn
  have HU2 : Hid (FU17 (GainArg l G H A B) (gainQ l G H A B) m2 us2 vs2 err2) := hU2
  clear hb hn hW hs hbn HB1 hh hU2 H1
  by_cases he : err2 = 0
  case neg =>
    have e1 : err2 = 1 := by
      rcases HU2.out with ⟨-, q, -⟩ | ⟨-, q, -⟩
      · exact absurd q he
      · exact q
    subst e1
    clear HU2 HW u2 v2 c20 c21 c22 x0 x1 y0 y1 he HW2
    dsimp only
    go_wp2
    go_ret
    exact ⟨rfl, HB2.out⟩
  subst he
  obtain ⟨hP, -, -⟩ := FrAt17.of17 HU2.out rfl
  obtain ⟨X, hX⟩ : ∃ X, X = A - G := ⟨_, rfl⟩
  obtain ⟨Y, hY⟩ : ∃ Y, Y = B - H := ⟨_, rfl⟩
  have s4 := hP.2.2.2
  have eX : A - G = X := hX.symm
  have eY : B - H = Y := hY.symm
  have bX : (-9223372036854775808 ≤ X ∧ X < 9223372036854775808) := by have := s4.1; have := s4.2.1; omega
  have bY : (-9223372036854775808 ≤ Y ∧ Y < 9223372036854775808) := by have := s4.2.2.1; have := s4.2.2.2; omega
  have wX : IntKind.i64.wrap X = X := by rw [IntKind.wrap_i64]; omega
  have wY : IntKind.i64.wrap Y = Y := by rw [IntKind.wrap_i64]; omega
  have wX2 : RowKit.wrap64 X = X := by unfold RowKit.wrap64; omega
  have wY2 : RowKit.wrap64 Y = Y := by unfold RowKit.wrap64; omega
  have H2 : Hid (∀ wx : World, Calls Try.prog 10 #[.int .i64 l, .agg #[.int .i64 (X), .int .i64 (Y)], .agg #[.int .i64 (A), .int .i64 (B)]] wx fun e w' => FT17 (GainArg l G H A B) (gainQ l G H A B) wx e w') := fun wx => by
    have hh := OG l X Y A B wx HW.out.1 bX bY HW.out.2.1 HW.out.2.2
    have e1 : gainQ l X Y A B = gainQ l G H A B := by rw [hX, hY]; exact gainQ_both l G H A B
    have e2 : GainArg l X Y A B := by rw [hX, hY]; exact gain_arg_both hP
    rw [e1] at hh
    exact hh.mono (fun e w' q => ⟨fun _ => q.1 e2, fun k => absurd hP k⟩)
  have hP0 := gain_arg_none hP.1 hP.2.2.1
  have H3 : Hid (∀ wx : World, Calls Try.prog 10 #[.int .i64 l, .agg #[.int .i64 (0), .int .i64 (0)], .agg #[.int .i64 (A), .int .i64 (B)]] wx fun e w' => FT17 (GainArg l 0 0 A B) (gainQ l 0 0 A B) wx e w') := fun wx => OG l 0 0 A B wx HW.out.1 (by decide) (by decide) HW.out.2.1 HW.out.2.2
  have HP0 : Hid (GainArg l 0 0 A B) := hP0
  clear hP hX hY s4 bX bY hP0 HW
  dsimp only
  go_wp2_with fail
  rw [HW2.out.1, HW2.out.2]
  rw [HW2.out.1] at x0 x1 y0 y1 c20 c21 c22 u2 v2
  rw [HW2.out.2] at c20 c21 c22
  replace HB2 : Hid (Below w.heap.size w W2) := by have h := HB2.out; rw [HW2.out.1] at h; exact h
  clear HW2
  refine Calls.mono (H2.out _) ?_
  rintro e w3 hh
  obtain ⟨m3, p3, k3, n3, p3', k3', n3', us3, vs3, err3, rfl, u3, v3, hU3, hb⟩ := hh.told
  have hn := balloc w3 (.cells #[.bool m3, .slice p3 k3 n3, .slice p3' k3' n3'] 30)
  obtain ⟨W3, hW⟩ : ∃ W3, W3 = w3.alloc (.cells #[.bool m3, .slice p3 k3 n3, .slice p3' k3' n3'] 30) := ⟨_, rfl⟩
  obtain ⟨s3, hs⟩ : ∃ s3, s3 = w3.heap.size := ⟨_, rfl⟩
  have hbn := bthen hb hn
  obtain ⟨c30, c31, c32, -, -, -⟩ := Cell3.new w3 m3 p3 p3' k3 n3 k3' n3'
  replace y0 := bkeep hbn y0 rfl
  replace y1 := bkeep hbn y1 rfl
  replace c20 := bkeep hbn c20 rfl
  replace c21 := bkeep hbn c21 rfl
  replace c22 := bkeep hbn c22 rfl
  replace u2 := u2.below hbn
  replace v2 := v2.below hbn
  replace u3 := u3.below hn
  replace v3 := v3.below hn
  have HW3 : Hid (w3.alloc (.cells #[.bool m3, .slice p3 k3 n3, .slice p3' k3' n3'] 30) = W3 ∧ w3.heap.size = s3) := ⟨hW.symm, hs.symm⟩
  have HB3 : Hid (Below w.heap.size w (w3.alloc (.cells #[.bool m3, .slice p3 k3 n3, .slice p3' k3' n3'] 30))) := bthen HB2.out hbn
  obtain ⟨rfl, rfl, rfl, rfl⟩ := FU17.unique HU2.out hU3
  have HS := (show Hid _ from r8same_any m2 m2 _ _ _ _ _ _ _ _ _ _ _ _ us2 vs2 us2 vs2 (w3.alloc (.cells #[.bool m2, .slice p3 k3 n3, .slice p3' k3' n3'] 30)) u2 v2 u3 v3)
  rw [show (decide (m2 = m2) && sameB us2 us2 && sameB vs2 vs2) = true by simp [sameB_self]] at HS
  clear hb hn hW hs hbn HB2 HW3 hh hU3 H2 HU2 u2 v2 u3 v3 x0 x1 wX wY wX2 wY2 eX eY
  dsimp only
  go_wp2_with fail
  refine Calls.mono HS.out ?_
  rintro e w4 ⟨rfl, hb4⟩
  replace y0 := bkeep hb4 y0 rfl
  replace y1 := bkeep hb4 y1 rfl
  have HB4 : Hid (Below w.heap.size w w4) := bthen HB3.out hb4
  clear HS HB3 hb4 c20 c21 c22 c30 c31 c32
  dsimp only
  go_wp2_with fail
  refine Calls.mono (H3.out _) ?_
  rintro e w5 hh
  obtain ⟨m5, p5, k5, n5, p5', k5', n5', us5, vs5, err5, rfl, u5, v5, hU5, hb⟩ := hh.told
  have hn := balloc w5 (.cells #[.bool m5, .slice p5 k5 n5, .slice p5' k5' n5'] 30)
  obtain ⟨W5, hW⟩ : ∃ W5, W5 = w5.alloc (.cells #[.bool m5, .slice p5 k5 n5, .slice p5' k5' n5'] 30) := ⟨_, rfl⟩
  obtain ⟨s5, hs⟩ : ∃ s5, s5 = w5.heap.size := ⟨_, rfl⟩
  have hbn := bthen hb hn
  obtain ⟨c50, c51, c52, -, -, -⟩ := Cell3.new w5 m5 p5 p5' k5 n5 k5' n5'
  replace u5 := u5.below hn
  replace v5 := v5.below hn
  have HW5 : Hid (w5.alloc (.cells #[.bool m5, .slice p5 k5 n5, .slice p5' k5' n5'] 30) = W5 ∧ w5.heap.size = s5) := ⟨hW.symm, hs.symm⟩
  obtain ⟨rfl, z1, z2⟩ := none17 HP0.out hU5
  have k5z : k5 = 0 := u5.hlen.symm.trans z1
  have k5o : k5' = 1 := v5.hlen.symm.trans z2
  subst k5z
  subst k5o
  have HT : Hid (Below w.heap.size w (w5.alloc (.cells #[.bool m5, .slice p5 0 n5, .slice p5' 1 n5'] 30))) := bthen HB4.out hbn
  clear hb hn hW hs hbn HB4 HW5 hh hU5 H3 HP0 u5 v5 y0 y1 z1 z2
  dsimp only
  go_wp2
  go_ret
  exact ⟨rfl, HT.out⟩
end Go.Proofs.Ytchmlfjjgehbkaa

/-
  Stage 17's laws: the walks of Scores and Splits. Written by mk/p17.py.
-/
import Derived.Test.YtchmlfjjgehbkaaGreatR17F
import Derived.Test.YtchmlfjjgehbkaaGreatR8P
namespace Go.Proofs.YtchmlfjjgehbkaaGreat
open Go.RowKit

set_option maxRecDepth 20000 in
set_option maxHeartbeats 12800000 in
theorem splits17_walk (OS : ScoOk17) (OG : GaiOk17) (l G H A B : Int) (w : World) (h0 : (-9223372036854775808 ≤ l ∧ l < 9223372036854775808)) (h1 : (-9223372036854775808 ≤ G ∧ G < 9223372036854775808)) (h2 : (-9223372036854775808 ≤ H ∧ H < 9223372036854775808)) (h3 : (-9223372036854775808 ≤ A ∧ A < 9223372036854775808)) (h4 : (-9223372036854775808 ≤ B ∧ B < 9223372036854775808)) : Calls Tryz.prog 3 #[.int .i64 l, .agg #[.int .i64 (G), .int .i64 (H)], .agg #[.int .i64 (A), .int .i64 (B)]] w fun e w' => e = .returned (.bool true) ∧ Below w.heap.size w w' := by
  have hv2 := balloc (w.alloc (.cells #[.int .i64 G, .int .i64 H] 23)) (.cells #[.int .i64 A, .int .i64 B] 23)
  have hb := bthen (balloc w (.cells #[.int .i64 G, .int .i64 H] 23)) hv2
  obtain ⟨V, hVe⟩ : ∃ V, V = (w.alloc (.cells #[.int .i64 G, .int .i64 H] 23)).alloc (.cells #[.int .i64 A, .int .i64 B] 23) := ⟨_, rfl⟩
  have HVe : Hid (V = (w.alloc (.cells #[.int .i64 G, .int .i64 H] 23)).alloc (.cells #[.int .i64 A, .int .i64 B] 23)) := hVe
  obtain ⟨g, hg⟩ : ∃ g, g = w.heap.size := ⟨_, rfl⟩
  have HG : Hid (g = w.heap.size) := hg
  have hs : SVar V g G H := by rw [hVe, hg]; exact SVar.below (heap_alloc_new w _) hv2
  have ht : SVar V (g + 1) A B := by
    have := heap_alloc_new (w.alloc (.cells #[.int .i64 G, .int .i64 H] 23)) (.cells #[.int .i64 A, .int .i64 B] 23)
    rw [hVe, hg]
    simpa [SVar] using this
  rw [← hVe] at hb
  have HB : Hid (Below w.heap.size w V) := hb
  obtain ⟨x0, x1⟩ := hs.cell
  obtain ⟨y0, y1⟩ := ht.cell
  clear hb hVe hg hs ht hv2
  have HA := (show Hid (∀ wx : World, _) from fun wx => awake17_any OS wx)
  have H1 := (show Hid (∀ wx : World, _) from fun wx => OG l G H A B wx h0 h1 h2 h3 h4)
  have H2 := (show Hid (∀ wx : World, _) from fun wx => r17gain_any l G H A B wx h0)
  clear h0 h1 h2 h3 h4
  go_enter Tryz.func3, Tryz.ntmps3
  go_upto_region 1 with fail
  rw [← HVe.out, ← HG.out]
  clear HVe HG
  go_wp2_with fail
  refine Calls.mono (HA.out _) ?_
  rintro e w1 ⟨rfl, hb1⟩
  replace x0 := bkeep hb1 x0 rfl
  replace x1 := bkeep hb1 x1 rfl
  replace y0 := bkeep hb1 y0 rfl
  replace y1 := bkeep hb1 y1 rfl
  have HB1 : Hid (Below w.heap.size w w1) := bthen HB.out hb1
  clear hb1 HA HB
  dsimp only
  go_wp2_with fail
  refine Calls.mono (H1.out _) ?_
  rintro e w2 hh
  obtain ⟨m2, p2, k2, n2, p2', k2', n2', us2, vs2, err2, rfl, u2, v2, hU2, hb⟩ := hh.told
  have hn := balloc w2 (.cells #[.bool m2, .slice p2 k2 n2, .slice p2' k2' n2'] 30)
  obtain ⟨W2, hW⟩ : ∃ W2, W2 = w2.alloc (.cells #[.bool m2, .slice p2 k2 n2, .slice p2' k2' n2'] 30) := ⟨_, rfl⟩
  obtain ⟨s2, hs⟩ : ∃ s2, s2 = w2.heap.size := ⟨_, rfl⟩
  have hbn := bthen hb hn
  obtain ⟨c20, c21, c22, -, -, -⟩ := Cell3.new w2 m2 p2 p2' k2 n2 k2' n2'
  replace x0 := bkeep hbn x0 rfl
  replace x1 := bkeep hbn x1 rfl
  replace y0 := bkeep hbn y0 rfl
  replace y1 := bkeep hbn y1 rfl
  replace u2 := u2.below hn
  replace v2 := v2.below hn
  have HW2 : Hid (w2.alloc (.cells #[.bool m2, .slice p2 k2 n2, .slice p2' k2' n2'] 30) = W2 ∧ w2.heap.size = s2) := ⟨hW.symm, hs.symm⟩
  have HB2 : Hid (Below w.heap.size w (w2.alloc (.cells #[.bool m2, .slice p2 k2 n2, .slice p2' k2' n2'] 30))) := bthen HB1.out hbn
  have HU2 := (show Hid _ from hU2)
  clear hb hn hW hs hbn HB1 hh hU2 H1
  dsimp only
  go_wp2_with fail
  rw [HW2.out.1, HW2.out.2]
  rw [HW2.out.1] at x0 x1 y0 y1 c20 c21 c22 u2 v2
  rw [HW2.out.2] at c20 c21 c22
  replace HB2 : Hid (Below w.heap.size w W2) := by have h := HB2.out; rw [HW2.out.1] at h; exact h
  clear HW2
  refine Calls.mono (H2.out _) ?_
  rintro e w3 hh
  obtain ⟨m3, p3, k3, n3, p3', k3', n3', us3, vs3, err3, rfl, u3, v3, hU3, hb⟩ := hh.told
  have hn := balloc w3 (.cells #[.bool m3, .slice p3 k3 n3, .slice p3' k3' n3'] 30)
  obtain ⟨W3, hW⟩ : ∃ W3, W3 = w3.alloc (.cells #[.bool m3, .slice p3 k3 n3, .slice p3' k3' n3'] 30) := ⟨_, rfl⟩
  obtain ⟨s3, hs⟩ : ∃ s3, s3 = w3.heap.size := ⟨_, rfl⟩
  have hbn := bthen hb hn
  obtain ⟨c30, c31, c32, -, -, -⟩ := Cell3.new w3 m3 p3 p3' k3 n3 k3' n3'
  replace c20 := bkeep hbn c20 rfl
  replace c21 := bkeep hbn c21 rfl
  replace c22 := bkeep hbn c22 rfl
  replace u2 := u2.below hbn
  replace v2 := v2.below hbn
  replace u3 := u3.below hn
  replace v3 := v3.below hn
  have HW3 : Hid (w3.alloc (.cells #[.bool m3, .slice p3 k3 n3, .slice p3' k3' n3'] 30) = W3 ∧ w3.heap.size = s3) := ⟨hW.symm, hs.symm⟩
  have HB3 : Hid (Below w.heap.size w (w3.alloc (.cells #[.bool m3, .slice p3 k3 n3, .slice p3' k3' n3'] 30))) := bthen HB2.out hbn
  obtain ⟨rfl, rfl, rfl, rfl⟩ := FU17.unique HU2.out hU3
  have HS := (show Hid _ from r8same_any m2 m2 _ _ _ _ _ _ _ _ _ _ _ _ us2 vs2 us2 vs2 (w3.alloc (.cells #[.bool m2, .slice p3 k3 n3, .slice p3' k3' n3'] 30)) u2 v2 u3 v3)
  rw [show (decide (m2 = m2) && sameB us2 us2 && sameB vs2 vs2) = true by simp [sameB_self]] at HS
  clear hb hn hW hs hbn HB2 HW3 hh hU3 H2 HU2 u2 v2 u3 v3 x0 x1 y0 y1
  dsimp only
  go_wp2_with fail
  refine Calls.mono HS.out ?_
  rintro e w4 ⟨rfl, hb4⟩
  have HT : Hid (Below w.heap.size w w4) := bthen HB3.out hb4
  have k2 : (err2 == err2) = true := by simp
  clear HS HB3 hb4 c20 c21 c22 c30 c31 c32
  dsimp only
  go_wp2
  go_ret
  exact ⟨rfl, HT.out⟩
end Go.Proofs.YtchmlfjjgehbkaaGreat

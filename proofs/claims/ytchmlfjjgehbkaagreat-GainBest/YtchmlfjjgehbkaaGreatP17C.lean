/-
  Stage 17's laws: the walk of Best. Written by mk/p17.py.
-/
import Derived.Test.YtchmlfjjgehbkaaGreatR17F
import Derived.Test.YtchmlfjjgehbkaaGreatW12B
namespace Go.Proofs.YtchmlfjjgehbkaaGreat
open Go.RowKit

set_option maxRecDepth 20000 in
set_option maxHeartbeats 12800000 in
theorem best17_walk (OS : ScoOk17) (OB : BesOk17) (x y A B : Int) (a : Option Addr) (n c : Nat) (ss : List (Int × Int)) (w : World) (h0 : (-9223372036854775808 ≤ x ∧ x < 9223372036854775808)) (h1 : (-9223372036854775808 ≤ y ∧ y < 9223372036854775808)) (h2 : (-9223372036854775808 ≤ A ∧ A < 9223372036854775808)) (h3 : (-9223372036854775808 ≤ B ∧ B < 9223372036854775808)) (hr : SRows w a n c ss) : Calls Tryz.prog 4 #[.agg #[.int .i64 x, .int .i64 y], .agg #[.int .i64 (A), .int .i64 (B)], .slice a n c] w fun e w' => e = .returned (.bool true) ∧ Below w.heap.size w w' := by
  have hm := hr.hmax
  have hcp := hr.hcap
  unfold maxLen at hm
  have HA := (show Hid (∀ wx : World, _) from fun wx => awake17_any OS wx)
  have hv2 := balloc (w.alloc (.cells #[.int .i64 x, .int .i64 y] 36)) (.cells #[.int .i64 A, .int .i64 B] 23)
  have hb := bthen (balloc w (.cells #[.int .i64 x, .int .i64 y] 36)) hv2
  obtain ⟨V, hVe⟩ : ∃ V, V = (w.alloc (.cells #[.int .i64 x, .int .i64 y] 36)).alloc (.cells #[.int .i64 A, .int .i64 B] 23) := ⟨_, rfl⟩
  have HVe : Hid (V = (w.alloc (.cells #[.int .i64 x, .int .i64 y] 36)).alloc (.cells #[.int .i64 A, .int .i64 B] 23)) := hVe
  obtain ⟨g, hg⟩ : ∃ g, g = w.heap.size := ⟨_, rfl⟩
  have HG : Hid (g = w.heap.size) := hg
  have hR := heap_alloc_new w (.cells #[.int .i64 x, .int .i64 y] 36)
  have x0 : V.cell? ⟨g, 0, none⟩ = some (.int .i64 x) := by rw [hVe, hg]; exact bkeep hv2 (by rw [cell_of_row _ _ _ _ _ _ hR]; rfl) rfl
  have x1 : V.cell? ⟨g, 1, none⟩ = some (.int .i64 y) := by rw [hVe, hg]; exact bkeep hv2 (by rw [cell_of_row _ _ _ _ _ _ hR]; rfl) rfl
  have ht : SVar V (g + 1) A B := by
    have := heap_alloc_new (w.alloc (.cells #[.int .i64 x, .int .i64 y] 36)) (.cells #[.int .i64 A, .int .i64 B] 23)
    rw [hVe, hg]
    simpa [SVar] using this
  rw [← hVe] at hb
  have HB : Hid (Below w.heap.size w V) := hb
  obtain ⟨y0, y1⟩ := ht.cell
  have HS : Hid (∀ wx, Below w.heap.size w wx → SRows wx a n c ss) := fun wx h => hr.below h
  have H1 : Hid (∀ wx : World, Below w.heap.size w wx → Calls Tryz.prog 9 #[.int .i64 x, .int .i64 y, .agg #[.int .i64 (A), .int .i64 (B)], .slice a n c] wx fun e w' => BesT17 x y A B ss wx e w') := fun wx h => OB x y A B a n c ss wx h0 h1 h2 h3 (HS.out wx h)
  have H2 : Hid (∀ wx : World, Below w.heap.size w wx → Calls Tryz.prog 10 #[.int .i64 x, .int .i64 y, .agg #[.int .i64 (A), .int .i64 (B)], .slice a n c] wx fun e w' => BesT17 x y A B ss wx e w') := fun wx h => r17best_any x y A B a n c ss wx h0 (HS.out wx h)
  clear hb hVe hg hR ht hv2 h0 h1 h2 h3 hr
  by_cases hn : 20000 < n
  · have d : decide ((20000 : Int) < (n : Int)) = true := decide_eq_true (by omega)
    clear H1 H2 HA x0 x1 y0 y1
    go_enter Tryz.func4, Tryz.ntmps4
    go_upto_region 1 with fail
    rw [← HVe.out]
    clear HVe HG
    go_wp2
    go_ret
    exact ⟨rfl, HB.out⟩
  have d : decide ((20000 : Int) < (n : Int)) = false := decide_eq_false (by omega)
  go_enter Tryz.func4, Tryz.ntmps4
  go_upto_region 1 with fail
  rw [← HVe.out, ← HG.out]
  clear HVe HG
  go_wp2_with fail
  refine Calls.mono (HA.out _) ?_
  rintro e w1 ⟨rfl, hb1⟩
  replace x0 := bkeep hb1 x0 rfl
  replace x1 := bkeep hb1 x1 rfl
  replace y0 := bkeep hb1 y0 rfl
  replace y1 := bkeep hb1 y1 rfl
  have HB1 : Hid (Below w.heap.size w w1) := bthen HB.out hb1
  clear hb1 HA HB
  dsimp only
  go_wp2_with fail
  refine Calls.mono (H1.out _ HB1.out) ?_
  rintro e w2 ⟨a2, n2, c2, xs, err, rfl, hL, hR2, hb2⟩
  replace x0 := bkeep hb2 x0 rfl
  replace x1 := bkeep hb2 x1 rfl
  replace y0 := bkeep hb2 y0 rfl
  replace y1 := bkeep hb2 y1 rfl
  have HB2 : Hid (Below w.heap.size w w2) := bthen HB1.out hb2
  have HR2 : Hid (ResBest17 x y A B ss err xs) := hR2
  clear hb2 HB1 H1 hR2
  dsimp only
  go_wp2_with fail
  refine Calls.mono (H2.out _ HB2.out) ?_
  rintro e w3 ⟨a3, n3, c3, xs', err', rfl, hL3, hR3, hb3⟩
  obtain ⟨rfl, rfl⟩ := HR2.out.unique hR3
  have HB3 : Hid (Below w.heap.size w w3) := bthen HB2.out hb3
  have HSm := (show Hid _ from r12si_any _ _ _ _ _ _ xs xs w3 (hL.below hb3) hL3)
  rw [show decide (xs = xs) = true by simp] at HSm
  clear hb3 HB2 H2 HR2 hR3 hL hL3 x0 x1 y0 y1 HS
  dsimp only
  go_wp2_with fail
  refine Calls.mono HSm.out ?_
  rintro e w4 ⟨rfl, hb4⟩
  have HT : Hid (Below w.heap.size w w4) := bthen HB3.out hb4
  have k2 : (err == err) = true := by simp
  clear HSm HB3 hb4
  dsimp only
  go_wp2
  go_ret
  exact ⟨rfl, HT.out⟩
end Go.Proofs.YtchmlfjjgehbkaaGreat

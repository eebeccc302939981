/-
  Small things of gain: isFrom, isLambda, isSum, others, isSplit, whole. Written by mk/x17.py.
-/
import Derived.Test.YtchmlfjjgehbkaaGreatX17M
import Derived.Test.YtchmlfjjgehbkaaGreatModB
import Derived.Laws.NewBlocks
namespace Go.Proofs.YtchmlfjjgehbkaaGreat
open Go.RowKit

def inB17 (l m n : Int) : Bool := decide (l ≤ n ∧ n ≤ m)
theorem inB17_iff {l m n : Int} : inB17 l m n = true ↔ l ≤ n ∧ n ≤ m := by unfold inB17; simp
set_option maxRecDepth 20000 in
set_option maxHeartbeats 6400000 in
theorem x17from_any (n l m : Int) (w : World) : Calls Tryz.prog 24 #[.int .i64 n, .int .i64 l, .int .i64 m] w fun e w' => e = .returned (.bool (inB17 l m n)) ∧ w = w' := by
  by_cases h0 : l ≤ n
  · by_cases h1 : n ≤ m
    · have HE : Hid (true = inB17 l m n) := (decide_eq_true ⟨h0, h1⟩).symm
      have h1d : decide (n ≤ m) = true := decide_eq_true h1
      have h0d : decide (l ≤ n) = true := decide_eq_true h0
      go_enter Tryz.func24, Tryz.ntmps24
      go_wp2
      go_ret
      exact ⟨ret_bool HE.out, rfl⟩
    · have HE : Hid (false = inB17 l m n) := (decide_eq_false (fun e => h1 e.2)).symm
      have h1d : decide (n ≤ m) = false := decide_eq_false h1
      have h0d : decide (l ≤ n) = true := decide_eq_true h0
      clear h1
      go_enter Tryz.func24, Tryz.ntmps24
      go_wp2
      go_ret
      exact ⟨ret_bool HE.out, rfl⟩
  · have HE : Hid (false = inB17 l m n) := (decide_eq_false (fun e => h0 e.1)).symm
    have h0d : decide (l ≤ n) = false := decide_eq_false h0
    clear h0
    go_enter Tryz.func24, Tryz.ntmps24
    go_wp2
    go_ret
    exact ⟨ret_bool HE.out, rfl⟩
set_option maxRecDepth 20000 in
set_option maxHeartbeats 6400000 in
theorem x17lam_any (n : Int) (w : World) : Calls Tryz.prog 13 #[.int .i64 n] w fun e w' => ∃ b, e = .returned (.bool b) ∧ (b = true ↔ LamOk n) ∧ w = w' := by
  have HC := (show Hid _ from x17from_any n 1 1048576 w)
  obtain ⟨q, hq⟩ : ∃ q, q = inB17 1 1048576 n := ⟨_, rfl⟩
  have HQ : Hid (q = true ↔ 1 ≤ n ∧ n ≤ 1048576) := by show _ ↔ _; rw [hq]; exact inB17_iff
  rw [← hq] at HC
  clear hq
  go_enter Tryz.func13, Tryz.ntmps13
  go_wp2_with fail
  refine Calls.mono HC.out ?_
  rintro e w1 ⟨rfl, rfl⟩
  clear HC
  go_wp2
  go_ret
  exact ⟨q, rfl, HQ.out, rfl⟩
set_option maxRecDepth 20000 in
set_option maxHeartbeats 6400000 in
theorem x17sum_any (G H : Int) (w : World) : Calls Tryz.prog 33 #[.agg #[.int .i64 G, .int .i64 H]] w fun e w' => ∃ b, e = .returned (.bool b) ∧ (b = true ↔ SumOk G H) ∧ Below w.heap.size w w' := by
  have hb := balloc w (.cells #[.int .i64 G, .int .i64 H] 23)
  obtain ⟨V, hVe⟩ : ∃ V, V = w.alloc (.cells #[.int .i64 G, .int .i64 H] 23) := ⟨_, rfl⟩
  have HVe : Hid (V = w.alloc (.cells #[.int .i64 G, .int .i64 H] 23)) := hVe
  obtain ⟨g, hG⟩ : ∃ g, g = w.heap.size := ⟨_, rfl⟩
  have HG : Hid (g = w.heap.size) := hG
  have HG0 : Hid (g = w.heap.size) := hG
  have hv : SVar V g G H := by rw [hVe, hG]; exact heap_alloc_new w _
  rw [← hVe] at hb
  have HB : Hid (Below w.heap.size w V) := hb
  obtain ⟨x0, x1⟩ := hv.cell
  clear hb hVe hG hv HG0
  obtain ⟨qs, hqs⟩ : ∃ q, q = inB17 (-1099511627776) 1099511627776 G := ⟨_, rfl⟩
  obtain ⟨ql, hql⟩ : ∃ q, q = inB17 0 1048576 H := ⟨_, rfl⟩
  have HKs : Hid (∀ wx : World, Calls Tryz.prog 24 #[.int .i64 G, .int .i64 (-1099511627776), .int .i64 1099511627776] wx fun e w' => e = .returned (.bool qs) ∧ wx = w') := fun wx => by rw [hqs]; exact x17from_any G (-1099511627776) 1099511627776 wx
  have HKl : Hid (∀ wx : World, Calls Tryz.prog 24 #[.int .i64 H, .int .i64 0, .int .i64 1048576] wx fun e w' => e = .returned (.bool ql) ∧ wx = w') := fun wx => by rw [hql]; exact x17from_any H 0 1048576 wx
  have HQs : Hid (qs = true ↔ -1099511627776 ≤ G ∧ G ≤ 1099511627776) := by show _ ↔ _; rw [hqs]; exact inB17_iff
  have HQl : Hid (ql = true ↔ 0 ≤ H ∧ H ≤ 1048576) := by show _ ↔ _; rw [hql]; exact inB17_iff
  clear hqs hql
  go_enter Tryz.func33, Tryz.ntmps33
  go_upto_region 1 with fail
  rw [← HVe.out, ← HG.out]
  clear HVe HG
  go_wp2_with fail
  refine Calls.mono (HKs.out _) ?_
  rintro e w2 ⟨rfl, rfl⟩
  dsimp only
  cases qs with
  | false =>
    clear HKs HKl
    go_wp2
    go_ret
    exact ⟨false, rfl, ⟨fun e => (by cases e), fun e => absurd (HQs.out.2 ⟨e.1, e.2.1⟩) (by decide)⟩, HB.out⟩
  | true =>
  go_wp2_with fail
  refine Calls.mono (HKl.out _) ?_
  rintro e w3 ⟨rfl, rfl⟩
  clear HKs HKl
  dsimp only
  go_wp2
  go_ret
  exact ⟨ql, rfl, ⟨fun e => ⟨(HQs.out.1 (by trivial)).1, (HQs.out.1 (by trivial)).2, HQl.out.1 e⟩, fun e => HQl.out.2 e.2.2⟩, HB.out⟩
set_option maxRecDepth 20000 in
set_option maxHeartbeats 6400000 in
theorem x17others_any (G H A B : Int) (w : World) (h1 : SumOk G H) (h2 : SumOk A B) : Calls Tryz.prog 34 #[.agg #[.int .i64 G, .int .i64 H], .agg #[.int .i64 A, .int .i64 B]] w fun e w' => e = .returned (.agg #[.int .i64 (A - G), .int .i64 (B - H)]) ∧ Below w.heap.size w w' := by
  have hv1 := balloc w (.cells #[.int .i64 G, .int .i64 H] 23)
  have hv2 := balloc (w.alloc (.cells #[.int .i64 G, .int .i64 H] 23)) (.cells #[.int .i64 A, .int .i64 B] 23)
  have hv3 := balloc ((w.alloc (.cells #[.int .i64 G, .int .i64 H] 23)).alloc (.cells #[.int .i64 A, .int .i64 B] 23)) (.cells #[.int .i64 0, .int .i64 0] 23)
  have hb := bthen (bthen hv1 hv2) hv3
  obtain ⟨V, hVe⟩ : ∃ V, V = (((w.alloc (.cells #[.int .i64 G, .int .i64 H] 23)).alloc (.cells #[.int .i64 A, .int .i64 B] 23)).alloc (.cells #[.int .i64 0, .int .i64 0] 23)) := ⟨_, rfl⟩
  have HVe : Hid (V = (((w.alloc (.cells #[.int .i64 G, .int .i64 H] 23)).alloc (.cells #[.int .i64 A, .int .i64 B] 23)).alloc (.cells #[.int .i64 0, .int .i64 0] 23))) := hVe
  obtain ⟨g, hG⟩ : ∃ g, g = w.heap.size := ⟨_, rfl⟩
  have HG : Hid (g = w.heap.size) := hG
  have HG0 : Hid (g = w.heap.size) := hG
  have s1 : SVar V g G H := by rw [hVe, hG]; exact SVar.below (heap_alloc_new w _) (bthen hv2 hv3)
  have s2 : SVar V (g + 1) A B := by
    rw [hVe, hG]
    have := SVar.below (W := ((w.alloc (.cells #[.int .i64 G, .int .i64 H] 23)).alloc (.cells #[.int .i64 A, .int .i64 B] 23))) (g := (w.alloc (.cells #[.int .i64 G, .int .i64 H] 23)).heap.size) (G := A) (H := B) (heap_alloc_new (w.alloc (.cells #[.int .i64 G, .int .i64 H] 23)) _) hv3
    simpa [SVar] using this
  have s3 : SCell17 V (g + 1 + 1) 0 0 := by
    have := SCell17.new ((w.alloc (.cells #[.int .i64 G, .int .i64 H] 23)).alloc (.cells #[.int .i64 A, .int .i64 B] 23)) 0 0
    rw [show ((w.alloc (.cells #[.int .i64 G, .int .i64 H] 23)).alloc (.cells #[.int .i64 A, .int .i64 B] 23)).heap.size = w.heap.size + 1 + 1 by simp] at this
    rw [hVe, hG]
    exact this
  rw [← hVe] at hb
  obtain ⟨x, hx⟩ : ∃ x, x = A - G := ⟨_, rfl⟩
  obtain ⟨y, hy⟩ : ∃ y, y = B - H := ⟨_, rfl⟩
  have e1 : A - G = x := hx.symm
  have e2 : B - H = y := hy.symm
  have bx : (-9223372036854775808 ≤ x ∧ x < 9223372036854775808) := by have := h1.1; have := h1.2.1; have := h2.1; have := h2.2.1; omega
  have by_ : (-9223372036854775808 ≤ y ∧ y < 9223372036854775808) := by have := h1.2.2; have := h2.2.2; omega
  have w1x : RowKit.wrap64 x = x := by unfold RowKit.wrap64; omega
  have w1y : RowKit.wrap64 y = y := by unfold RowKit.wrap64; omega
  rw [e1, e2]
  have HB : Hid (Below w.heap.size w ((V.setCell ⟨g + 1 + 1, 0, none⟩ (.int .i64 x)).setCell ⟨g + 1 + 1, 1, none⟩ (.int .i64 y))) := put2_below17 hb (by omega) _ _
  obtain ⟨x0, x1⟩ := s1.cell
  obtain ⟨y0, y1⟩ := s2.cell
  obtain ⟨r0, r1, f0, f1⟩ := s3
  clear hv1 hv2 hv3 hb hVe hG HG0 s1 s2 h1 h2 bx by_ hx hy
  go_enter Tryz.func34, Tryz.ntmps34
  go_upto_region 1 with fail
  rw [← HVe.out, ← HG.out]
  clear HVe HG
  go_wp2_with fail
  exact bodyPost_ret (v := .agg #[.int .i64 x, .int .i64 y]) (by simp [results, Tryz.results34, go_sem, r0, r1]) rfl ⟨rfl, HB.out⟩
set_option maxRecDepth 20000 in
set_option maxHeartbeats 6400000 in
theorem x17split_any (G H A B : Int) (w : World) : Calls Tryz.prog 14 #[.agg #[.int .i64 G, .int .i64 H], .agg #[.int .i64 A, .int .i64 B]] w fun e w' => ∃ b, e = .returned (.bool b) ∧ (b = true ↔ SumOk G H ∧ SumOk A B ∧ SumOk (A - G) (B - H)) ∧ Below w.heap.size w w' := by
  have hv1 := balloc w (.cells #[.int .i64 G, .int .i64 H] 23)
  have hv2 := balloc (w.alloc (.cells #[.int .i64 G, .int .i64 H] 23)) (.cells #[.int .i64 A, .int .i64 B] 23)
  have hb := bthen hv1 hv2
  obtain ⟨V, hVe⟩ : ∃ V, V = ((w.alloc (.cells #[.int .i64 G, .int .i64 H] 23)).alloc (.cells #[.int .i64 A, .int .i64 B] 23)) := ⟨_, rfl⟩
  have HVe : Hid (V = ((w.alloc (.cells #[.int .i64 G, .int .i64 H] 23)).alloc (.cells #[.int .i64 A, .int .i64 B] 23))) := hVe
  obtain ⟨g, hG⟩ : ∃ g, g = w.heap.size := ⟨_, rfl⟩
  have HG : Hid (g = w.heap.size) := hG
  have HG0 : Hid (g = w.heap.size) := hG
  have s1 : SVar V g G H := by rw [hVe, hG]; exact SVar.below (heap_alloc_new w _) hv2
  have s2 : SVar V (g + 1) A B := by
    rw [hVe, hG]
    have := heap_alloc_new (w.alloc (.cells #[.int .i64 G, .int .i64 H] 23)) (.cells #[.int .i64 A, .int .i64 B] 23)
    simpa [SVar] using this
  rw [← hVe] at hb
  have HC := (show Hid _ from x17sum_any G H V)
  obtain ⟨x0, x1⟩ := s1.cell
  obtain ⟨y0, y1⟩ := s2.cell
  have HB : Hid (Below w.heap.size w V) := hb
  clear hv1 hv2 hb hVe hG HG0 s1 s2
  go_enter Tryz.func14, Tryz.ntmps14
  go_upto_region 1 with fail
  rw [← HVe.out, ← HG.out]
  clear HVe HG
  go_wp2_with fail
  refine Calls.mono HC.out ?_
  rintro e w1 ⟨a, rfl, ha, hb1⟩
  have HA : Hid ((a = true ↔ SumOk G H) ∧ Below w.heap.size w w1) := ⟨ha, bthen HB.out hb1⟩
  replace x0 := bkeep hb1 x0 rfl
  replace x1 := bkeep hb1 x1 rfl
  replace y0 := bkeep hb1 y0 rfl
  replace y1 := bkeep hb1 y1 rfl
  have HC2 := (show Hid _ from x17sum_any A B w1)
  clear HC ha hb1 HB
  dsimp only
  cases a with
  | false =>
    clear HC2 x0 x1 y0 y1
    go_wp2
    go_ret
    exact ⟨false, rfl, ⟨fun e => (by cases e), fun e => absurd (HA.out.1.2 e.1) (by decide)⟩, HA.out.2⟩
  | true =>
  go_wp2_with fail
  refine Calls.mono HC2.out ?_
  rintro e w2 ⟨b, rfl, hb, hb2⟩
  have hA := HA.out.1.1 (by trivial)
  have HB : Hid ((b = true ↔ SumOk A B) ∧ SumOk G H ∧ Below w.heap.size w w2) := ⟨hb, hA, bthen HA.out.2 hb2⟩
  replace x0 := bkeep hb2 x0 rfl
  replace x1 := bkeep hb2 x1 rfl
  replace y0 := bkeep hb2 y0 rfl
  replace y1 := bkeep hb2 y1 rfl
  clear HC2 HA hb hb2 hA
  dsimp only
  cases b with
  | false =>
    clear x0 x1 y0 y1
    go_wp2
    go_ret
    exact ⟨false, rfl, ⟨fun e => (by cases e), fun e => absurd (HB.out.1.2 e.2.1) (by decide)⟩, HB.out.2.2⟩
  | true =>
  have HO := (show Hid _ from x17others_any G H A B w2 HB.out.2.1 (HB.out.1.1 (by trivial)))
  go_wp2_with fail
  refine Calls.mono HO.out ?_
  rintro e w3 ⟨rfl, hb3⟩
  have HC3 := (show Hid _ from x17sum_any (A - G) (B - H) w3)
  have HB3 : Hid (SumOk A B ∧ SumOk G H ∧ Below w.heap.size w w3) := ⟨HB.out.1.1 (by trivial), HB.out.2.1, bthen HB.out.2.2 hb3⟩
  obtain ⟨x, hx⟩ : ∃ x, x = A - G := ⟨_, rfl⟩
  obtain ⟨y, hy⟩ : ∃ y, y = B - H := ⟨_, rfl⟩
  rw [← hx, ← hy] at HC3
  rw [← hx, ← hy]
  have HXY : Hid (x = A - G ∧ y = B - H) := ⟨hx, hy⟩
  clear HO hb3 HB x0 x1 y0 y1 hx hy
  dsimp only
  go_wp2_with fail
  refine Calls.mono HC3.out ?_
  rintro e w4 ⟨c, rfl, hc, hb4⟩
  have HX : Hid ((c = true ↔ SumOk G H ∧ SumOk A B ∧ SumOk (A - G) (B - H)) ∧ Below w.heap.size w w4) := by
    rw [HXY.out.1, HXY.out.2] at hc
    exact ⟨⟨fun e => ⟨HB3.out.2.1, HB3.out.1, hc.1 e⟩, fun e => hc.2 e.2.2⟩, bthen HB3.out.2.2 hb4⟩
  clear HC3 HB3 hc hb4
  dsimp only
  go_wp2
  go_ret
  exact ⟨c, rfl, HX.out.1, HX.out.2⟩
set_option maxRecDepth 20000 in
set_option maxHeartbeats 6400000 in
theorem x17whole_any (n : Int) (w : World) (hn : (-9223372036854775808 ≤ n ∧ n < 9223372036854775808)) : Calls Tryz.prog 42 #[.int .i64 n] w fun e w' => ∃ p a l k, e = .returned (.agg #[.bool p, .slice a l k]) ∧ WAt w' p a l k n ∧ Below w.heap.size w w' := by
  have hb := balloc w (.cells #[.bool false, .slice none 0 0] 28)
  obtain ⟨V, hVe⟩ : ∃ V, V = w.alloc (.cells #[.bool false, .slice none 0 0] 28) := ⟨_, rfl⟩
  have HVe : Hid (V = w.alloc (.cells #[.bool false, .slice none 0 0] 28)) := hVe
  obtain ⟨g, hG⟩ : ∃ g, g = w.heap.size := ⟨_, rfl⟩
  have HG : Hid (g = w.heap.size) := hG
  have HG0 : Hid (g = w.heap.size) := hG
  have hv : ICell17 V g false none 0 0 := by rw [hVe, hG]; exact ICell17.new w _ _ _ _
  rw [← hVe] at hb
  have H1 := (show Hid _ from iof_any n V hn)
  have hwG : IntKind.i64.wrap n = n := by rw [IntKind.wrap_i64]; omega
  have HK : Hid ((-9223372036854775808 ≤ n ∧ n < 9223372036854775808) ∧ Below w.heap.size w V ∧ ICell17 V g false none 0 0) := ⟨hn, hb, hv⟩
  clear hb hVe hG hv hn
  go_enter Tryz.func42, Tryz.ntmps42
  go_upto_region 1 with fail
  rw [← HVe.out, ← HG.out]
  clear HVe HG
  go_wp2_with fail
  refine Calls.mono H1.out ?_
  rintro e w1 ⟨a1, n1, c1, rfl, hn1, hb1⟩
  obtain ⟨p1, hp1⟩ : ∃ p, p = decide (n < 0) := ⟨_, rfl⟩
  have k1 : WAt w1 p1 a1 n1 c1 n := ⟨_, hn1, by rw [hp1]; exact IsW.of HK.out.1⟩
  rw [← hp1]
  have hr := HK.out.2.2.below hb1
  obtain ⟨xs, k2, k3⟩ := k1
  obtain ⟨r0, r1, f0, f1⟩ := hr
  have HX : Hid (WAt ((w1.setCell ⟨g, 0, none⟩ (.bool p1)).setCell ⟨g, 1, none⟩ (.slice a1 n1 c1)) p1 a1 n1 c1 n ∧ Below w.heap.size w ((w1.setCell ⟨g, 0, none⟩ (.bool p1)).setCell ⟨g, 1, none⟩ (.slice a1 n1 c1))) := ⟨⟨xs, k2.put2 r0 r1 _ _, k3⟩, put2_below17 (bthen HK.out.2.1 hb1) (Nat.le_of_eq HG0.out.symm) _ _⟩
  clear H1 HK hn1 hb1 hp1 k2 k3 HG0
  dsimp only
  go_wp2_with fail
  exact bodyPost_ret (v := .agg #[.bool p1, .slice a1 n1 c1]) (by simp [results, Tryz.results42, go_sem, r0, r1]) rfl ⟨_, _, _, _, rfl, HX.out.1, HX.out.2⟩
end Go.Proofs.YtchmlfjjgehbkaaGreat

/-
  The program's derivatives and sums: Grad, isSum. Written by mk/x16.py.
-/
import Derived.Test.YtpeefhkadeoioaaX16A
namespace Go.Proofs.Ytpeefhkadeoioaa
open Go.RowKit

set_option maxRecDepth 20000 in
set_option maxHeartbeats 3200000 in
theorem x16grad_any (c : Cfg) (s l : Int) (w : World) : Calls Try.prog 11 #[.agg #[.int .i64 c.T, .int .i64 c.D, .int .i64 c.L, .int .i64 c.G, .int .i64 c.N, .int .i64 c.E, .int .i64 c.S, .int .i64 c.C], .int .i64 s, .int .i64 l] w fun e w' => GradT16 c s l w e w' := by
  have hb := balloc w (.cells #[.int .i64 c.T, .int .i64 c.D, .int .i64 c.L, .int .i64 c.G, .int .i64 c.N, .int .i64 c.E, .int .i64 c.S, .int .i64 c.C] 23)
  obtain ⟨V, hVe⟩ : ∃ V, V = w.alloc (.cells #[.int .i64 c.T, .int .i64 c.D, .int .i64 c.L, .int .i64 c.G, .int .i64 c.N, .int .i64 c.E, .int .i64 c.S, .int .i64 c.C] 23) := ⟨_, rfl⟩
  have HVe : Hid (V = w.alloc (.cells #[.int .i64 c.T, .int .i64 c.D, .int .i64 c.L, .int .i64 c.G, .int .i64 c.N, .int .i64 c.E, .int .i64 c.S, .int .i64 c.C] 23)) := hVe
  obtain ⟨g0, hG⟩ : ∃ g0, g0 = w.heap.size := ⟨_, rfl⟩
  have HG : Hid (g0 = w.heap.size) := hG
  have hv : CVar V g0 c := by rw [hVe, hG]; exact CVar.new w c
  rw [← hVe] at hb
  have HC := (show Hid _ from x16right_any c V)
  have HC2 : Hid (∀ wx, Calls Try.prog 16 #[.agg #[.int .i64 c.T, .int .i64 c.D, .int .i64 c.L, .int .i64 c.G, .int .i64 c.N, .int .i64 c.E, .int .i64 c.S, .int .i64 c.C]] wx fun e w' => GreatT16 c wx e w') := fun wx => x16great_any c wx
  have HB : Hid (Below w.heap.size w V ∧ CVar V g0 c) := ⟨hb, hv⟩
  obtain ⟨x0, x1, x2, x3, x4, x5, x6, x7⟩ := hv.cell
  clear hb hVe hG hv
  obtain ⟨qs, hqs⟩ : ∃ q, q = inB16 (-1099511627776) 1099511627776 s := ⟨_, rfl⟩
  obtain ⟨ql, hql⟩ : ∃ q, q = inB16 (-1048576) 1048576 l := ⟨_, rfl⟩
  have HKs : Hid (∀ wx : World, Calls Try.prog 18 #[.int .i64 s, .int .i64 1099511627776] wx fun e w' => e = .returned (.bool qs) ∧ wx = w') := fun wx => by rw [hqs]; exact x16within_any s 1099511627776 wx (by decide)
  have HKl : Hid (∀ wx : World, Calls Try.prog 18 #[.int .i64 l, .int .i64 1048576] wx fun e w' => e = .returned (.bool ql) ∧ wx = w') := fun wx => by rw [hql]; exact x16within_any l 1048576 wx (by decide)
  have HQs : Hid (qs = true ↔ -1099511627776 ≤ s ∧ s ≤ 1099511627776) := by show _ ↔ _; rw [hqs]; exact inB16_iff
  have HQl : Hid (ql = true ↔ -1048576 ≤ l ∧ l ≤ 1048576) := by show _ ↔ _; rw [hql]; exact inB16_iff
  clear hqs hql
  go_enter Try.func11, Try.ntmps11
  go_upto_region 1 with fail
  rw [← HVe.out, ← HG.out]
  clear HVe HG
  go_wp2_with fail
  refine Calls.mono HC.out ?_
  rintro e w1 ⟨z, rfl, hz, hb1⟩
  have hv1 := HB.out.2.below hb1
  have HT : Hid (Below w.heap.size w w1) := bthen HB.out.1 hb1
  clear x0 x1 x2 x3 x4 x5 x6 x7 HC HB hb1
  obtain ⟨x0, x1, x2, x3, x4, x5, x6, x7⟩ := hv1.cell
  have HV1 : Hid (CVar w1 g0 c) := hv1
  clear hv1
  have bad : ¬ GradArg c s l → Hid (GradT16 c s l w (.returned (.tuple #[.int .i64 0, .int .i64 1])) w1) := fun h => ⟨0, 1, rfl, .inl ⟨h, rfl, rfl⟩, HT.out⟩
  dsimp only
  cases z with
  | false =>
    have HX := bad (fun e => by have := hz.2 e.1; cases this)
    clear hz bad HKs HKl HC2
    go_wp2
    go_ret2
    exact HX.out
  | true =>
  have HOK : Hid (CfgOk c) := hz.1 rfl
  clear hz
  go_wp2_with fail
  refine Calls.mono (HKs.out _) ?_
  rintro e w2 ⟨rfl, rfl⟩
  dsimp only
  cases qs with
  | false =>
    have HX := bad (fun e => by have := HQs.out.2 ⟨e.2.1, e.2.2.1⟩; cases this)
    clear bad HKs HKl HC2
    go_wp2
    go_ret2
    exact HX.out
  | true =>
  go_wp2_with fail
  refine Calls.mono (HKl.out _) ?_
  rintro e w3 ⟨rfl, rfl⟩
  dsimp only
  cases ql with
  | false =>
    have HX := bad (fun e => by have := HQl.out.2 ⟨e.2.2.2.1, e.2.2.2.2⟩; cases this)
    clear bad HKs HKl HC2
    go_wp2
    go_ret2
    exact HX.out
  | true =>
  clear bad HKs HKl
  go_wp2_with fail
  refine Calls.mono (HC2.out _) ?_
  rintro e w4 ⟨g, b, rfl, hb, hg, hb4⟩
  have hs := HQs.out.1 (by trivial)
  have hl := HQl.out.1 (by trivial)
  have e1 := hg (hb.2 HOK.out.s)
  have hcap := capG_pos HOK.out
  rw [← e1] at hcap
  have HX : Hid (∀ x, x = max (-g) (min (s - l) g) → GradT16 c s l w (.returned (.tuple #[.int .i64 x, .int .i64 0])) w4) := fun x e => ⟨x, 0, rfl, .inr ⟨⟨HOK.out, hs.1, hs.2, hl.1, hl.2⟩, by unfold gradV; rw [← e1, e]; omega, rfl⟩, bthen HT.out hb4⟩
  have hsl : -1100585369600 ≤ s - l ∧ s - l ≤ 1100585369600 := by omega
  have hw1 : RowKit.wrap64 (-g) = -g := by unfold RowKit.wrap64; omega
  have hw2 : RowKit.wrap64 (s - l) = s - l := by unfold RowKit.wrap64; omega
  clear HC2 hs hl e1 hcap hsl hb hg hb4 x0 x1 x2 x3 x4 x5 x6 x7 HV1 HT HOK HQs HQl
  dsimp only
  go_wp2
  go_ret2
  exact HX.out _ rfl
set_option maxRecDepth 20000 in
set_option maxHeartbeats 3200000 in
theorem x16sum_any (G H : Int) (w : World) : Calls Try.prog 19 #[.agg #[.int .i64 G, .int .i64 H]] w fun e w' => ∃ b, e = .returned (.bool b) ∧ (b = true ↔ SumOk G H) ∧ Below w.heap.size w w' := by
  have hb := balloc w (.cells #[.int .i64 G, .int .i64 H] 31)
  obtain ⟨V, hVe⟩ : ∃ V, V = w.alloc (.cells #[.int .i64 G, .int .i64 H] 31) := ⟨_, rfl⟩
  have HVe : Hid (V = w.alloc (.cells #[.int .i64 G, .int .i64 H] 31)) := hVe
  obtain ⟨g0, hG⟩ : ∃ g0, g0 = w.heap.size := ⟨_, rfl⟩
  have HG : Hid (g0 = w.heap.size) := hG
  have hv : SVar V g0 G H := by rw [hVe, hG]; exact heap_alloc_new _ _
  rw [← hVe] at hb
  have HB : Hid (Below w.heap.size w V) := hb
  obtain ⟨x0, x1⟩ := hv.cell
  clear hb hVe hG hv
  obtain ⟨qs, hqs⟩ : ∃ q, q = inB16 (-1099511627776) 1099511627776 G := ⟨_, rfl⟩
  obtain ⟨ql, hql⟩ : ∃ q, q = inB16 0 1048576 H := ⟨_, rfl⟩
  have HKs : Hid (∀ wx : World, Calls Try.prog 18 #[.int .i64 G, .int .i64 1099511627776] wx fun e w' => e = .returned (.bool qs) ∧ wx = w') := fun wx => by rw [hqs]; exact x16within_any G 1099511627776 wx (by decide)
  have HKl : Hid (∀ wx : World, Calls Try.prog 17 #[.int .i64 H, .int .i64 0, .int .i64 1048576] wx fun e w' => e = .returned (.bool ql) ∧ wx = w') := fun wx => by rw [hql]; exact x16from_any H 0 1048576 wx
  have HQs : Hid (qs = true ↔ -1099511627776 ≤ G ∧ G ≤ 1099511627776) := by show _ ↔ _; rw [hqs]; exact inB16_iff
  have HQl : Hid (ql = true ↔ 0 ≤ H ∧ H ≤ 1048576) := by show _ ↔ _; rw [hql]; exact inB16_iff
  clear hqs hql
  go_enter Try.func19, Try.ntmps19
  go_upto_region 1 with fail
  rw [← HVe.out, ← HG.out]
  clear HVe HG
  go_wp2_with fail
  refine Calls.mono (HKs.out _) ?_
  rintro e w2 ⟨rfl, rfl⟩
  dsimp only
  cases qs with
  | false =>
    clear HKs HKl
    go_wp2
    go_ret
    exact ⟨false, rfl, ⟨fun e => (by cases e), fun e => absurd (HQs.out.2 ⟨e.1, e.2.1⟩) (by decide)⟩, HB.out⟩
  | true =>
  go_wp2_with fail
  refine Calls.mono (HKl.out _) ?_
  rintro e w3 ⟨rfl, rfl⟩
  clear HKs HKl
  dsimp only
  go_wp2
  go_ret
  exact ⟨ql, rfl, ⟨fun e => ⟨(HQs.out.1 (by trivial)).1, (HQs.out.1 (by trivial)).2, HQl.out.1 e⟩, fun e => HQl.out.2 e.2.2⟩, HB.out⟩
end Go.Proofs.Ytpeefhkadeoioaa

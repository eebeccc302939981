/-
  Stage 15's laws: the walks of Rights, Aligns, Takes, Joins, Lefts. Written by mk/p15b.py.
-/
import Derived.Test.YtaiikhbfnfcalaaB15O
namespace Go.Proofs.Ytaiikhbfnfcalaa
open Go.RowKit

set_option maxRecDepth 20000 in
set_option maxHeartbeats 3200000 in
theorem rights15_walk (OA : AliOk15) (OR : RgtOk15) (v : TV) (t : Tab) (w : World) (h : TabAt w v t) : Calls Try.prog 3 #[.agg #[.slice v.p0 v.l0 v.c0, .slice v.p1 v.l1 v.c1, .slice v.p2 v.l2 v.c2]] w fun e w' => e = .returned (.bool true) ∧ Below w.heap.size w w' := by
  have hb := balloc w (.cells #[.slice v.p0 v.l0 v.c0, .slice v.p1 v.l1 v.c1, .slice v.p2 v.l2 v.c2] 25)
  obtain ⟨V, hVe⟩ : ∃ V, V = w.alloc (.cells #[.slice v.p0 v.l0 v.c0, .slice v.p1 v.l1 v.c1, .slice v.p2 v.l2 v.c2] 25) := ⟨_, rfl⟩
  have HVe : Hid (V = w.alloc (.cells #[.slice v.p0 v.l0 v.c0, .slice v.p1 v.l1 v.c1, .slice v.p2 v.l2 v.c2] 25)) := hVe
  obtain ⟨G, hG⟩ : ∃ G, G = w.heap.size := ⟨_, rfl⟩
  have HG : Hid (G = w.heap.size) := hG
  have x0 : V.cell? ⟨G, 0, none⟩ = some (.slice v.p0 v.l0 v.c0) := by rw [hVe, hG]; simp
  have x1 : V.cell? ⟨G, 1, none⟩ = some (.slice v.p1 v.l1 v.c1) := by rw [hVe, hG]; simp
  have x2 : V.cell? ⟨G, 2, none⟩ = some (.slice v.p2 v.l2 v.c2) := by rw [hVe, hG]; simp
  rw [← hVe] at hb
  have HB : Hid (Below w.heap.size w V) := hb
  have HA := (show Hid (∀ wx : World, _) from fun wx => awake15_any OA wx)
  have H1 : Hid (∀ wx : World, Below V.heap.size V wx → Calls Try.prog 10 #[.agg #[.slice v.p0 v.l0 v.c0, .slice v.p1 v.l1 v.c1, .slice v.p2 v.l2 v.c2]] wx fun e w' => RgtT15 t wx e w') := fun wx hw => OR v t wx ((h.below hb).below hw)
  have H2 : Hid (∀ wx : World, Below V.heap.size V wx → Calls Try.prog 11 #[.agg #[.slice v.p0 v.l0 v.c0, .slice v.p1 v.l1 v.c1, .slice v.p2 v.l2 v.c2]] wx fun e w' => RgtT15 t wx e w') := fun wx hw => r15right_any v t wx ((h.below hb).below hw)
  clear h hVe hb hG
  go_enter Try.func3, Try.ntmps3
  go_upto_region 1 with fail
  rw [← HVe.out, ← HG.out]
  clear HVe HG
  go_wp2_with fail
  refine Calls.mono (HA.out _) ?_
  rintro e w1 ⟨rfl, hb1⟩
  replace x0 := bkeep hb1 x0 rfl
  replace x1 := bkeep hb1 x1 rfl
  replace x2 := bkeep hb1 x2 rfl
  have HC1 := (show Hid _ from H1.out w1 hb1)
  have HB1 : Hid (Below V.heap.size V w1) := hb1
  clear hb1 HA H1
  dsimp only
  go_wp2_with fail
  refine Calls.mono HC1.out ?_
  rintro e w2 ⟨z, rfl, hz, hb2⟩
  replace x0 := bkeep hb2 x0 rfl
  replace x1 := bkeep hb2 x1 rfl
  replace x2 := bkeep hb2 x2 rfl
  have HB2 : Hid (Below V.heap.size V w2) := bthen HB1.out hb2
  have HC2 := (show Hid _ from H2.out w2 HB2.out)
  have HZ : Hid (z = true ↔ TabOk t) := hz
  clear hb2 HC1 H2 HB1 hz
  dsimp only
  go_wp2_with fail
  refine Calls.mono HC2.out ?_
  rintro e w3 ⟨y, rfl, hy, hb3⟩
  obtain rfl : z = y := Bool.eq_iff_iff.2 (HZ.out.trans hy.symm)
  have HT : Hid (Below w.heap.size w w3) := bthen HB.out (bthen HB2.out hb3)
  have k1 : (z == z) = true := by simp
  clear HC2 HZ HB HB2 hb3 hy x0 x1 x2
  dsimp only
  go_wp2
  go_ret
  exact ⟨rfl, HT.out⟩
set_option maxRecDepth 20000 in
set_option maxHeartbeats 3200000 in
theorem aligns15_walk (OA : AliOk15) (a : Option Addr) (l c : Nat) (Ls : List (List Int)) (w : World) (h : IRows w a l c Ls) : Calls Try.prog 4 #[.slice a l c] w fun e w' => e = .returned (.bool true) ∧ Below w.heap.size w w' := by
  have HA := (show Hid (∀ wx : World, _) from fun wx => awake15_any OA wx)
  have H1 : Hid (∀ wx : World, Below w.heap.size w wx → Calls Try.prog 12 #[.slice a l c] wx fun e w' => AlignT15 Ls wx e w') := fun wx hw => OA a l c Ls wx (h.below hw)
  have H2 : Hid (∀ wx : World, Below w.heap.size w wx → Calls Try.prog 13 #[.slice a l c] wx fun e w' => AlignT15 Ls wx e w') := fun wx hw => r15align_any a l c Ls wx (h.below hw)
  clear h
  go_enter Try.func4, Try.ntmps4
  go_wp2_with fail
  refine Calls.mono (HA.out _) ?_
  rintro e w1 ⟨rfl, hb1⟩
  have HC1 := (show Hid _ from H1.out w1 hb1)
  have HB1 : Hid (Below w.heap.size w w1) := hb1
  clear hb1 HA H1
  dsimp only
  go_wp2_with fail
  refine Calls.mono HC1.out ?_
  rintro e w2 ⟨p, n, q, xs, err, rfl, hL, -, hr, hb2⟩
  have HB2 : Hid (Below w.heap.size w w2) := bthen HB1.out hb2
  have HC2 := (show Hid _ from H2.out w2 HB2.out)
  have HZ : Hid (Lsts w2 p n q xs ∧ ResAlign Ls err xs) := ⟨hL, hr⟩
  clear hb2 HC1 H2 HB1 hL hr
  dsimp only
  go_wp2_with fail
  refine Calls.mono HC2.out ?_
  rintro e w3 ⟨p', n', q', ys, err', rfl, hL, -, hr, hb3⟩
  obtain ⟨rfl, rfl⟩ := HZ.out.2.unique hr
  have HS : Hid (Calls Try.prog 14 #[.slice p n q, .slice p' n' q'] w3 fun e w' => e = .returned (.bool true) ∧ Below w3.heap.size w3 w') := (r12si_any p p' n q n' q' xs xs w3 (HZ.out.1.below hb3) hL).mono fun e w' k => ⟨by rw [k.1]; simp, k.2⟩
  have HB3 : Hid (Below w.heap.size w w3) := bthen HB2.out hb3
  clear HC2 HZ HB2 hb3 hr hL
  dsimp only
  go_wp2_with fail
  refine Calls.mono HS.out ?_
  rintro e w4 ⟨rfl, hb4⟩
  have HT : Hid (Below w.heap.size w w4) := bthen HB3.out hb4
  have k1 : (err == err) = true := by simp
  clear HS HB3 hb4
  dsimp only
  go_wp2
  go_ret
  exact ⟨rfl, HT.out⟩
set_option maxRecDepth 20000 in
set_option maxHeartbeats 3200000 in
theorem takes15_walk (OA : AliOk15) (OT : TakOk15) (v : TV) (t : Tab) (a : Option Addr) (l c : Nat) (xs : List Int) (w : World) (h : TabAt w v t) (hL : Lsts w a l c xs) : Calls Try.prog 5 #[.agg #[.slice v.p0 v.l0 v.c0, .slice v.p1 v.l1 v.c1, .slice v.p2 v.l2 v.c2], .slice a l c] w fun e w' => e = .returned (.bool true) ∧ Below w.heap.size w w' := by
  have hb := balloc w (.cells #[.slice v.p0 v.l0 v.c0, .slice v.p1 v.l1 v.c1, .slice v.p2 v.l2 v.c2] 25)
  obtain ⟨V, hVe⟩ : ∃ V, V = w.alloc (.cells #[.slice v.p0 v.l0 v.c0, .slice v.p1 v.l1 v.c1, .slice v.p2 v.l2 v.c2] 25) := ⟨_, rfl⟩
  have HVe : Hid (V = w.alloc (.cells #[.slice v.p0 v.l0 v.c0, .slice v.p1 v.l1 v.c1, .slice v.p2 v.l2 v.c2] 25)) := hVe
  obtain ⟨G, hG⟩ : ∃ G, G = w.heap.size := ⟨_, rfl⟩
  have HG : Hid (G = w.heap.size) := hG
  have x0 : V.cell? ⟨G, 0, none⟩ = some (.slice v.p0 v.l0 v.c0) := by rw [hVe, hG]; simp
  have x1 : V.cell? ⟨G, 1, none⟩ = some (.slice v.p1 v.l1 v.c1) := by rw [hVe, hG]; simp
  have x2 : V.cell? ⟨G, 2, none⟩ = some (.slice v.p2 v.l2 v.c2) := by rw [hVe, hG]; simp
  rw [← hVe] at hb
  have HB : Hid (Below w.heap.size w V) := hb
  have HA := (show Hid (∀ wx : World, _) from fun wx => awake15_any OA wx)
  have H1 : Hid (∀ wx : World, Below V.heap.size V wx → Calls Try.prog 15 #[.agg #[.slice v.p0 v.l0 v.c0, .slice v.p1 v.l1 v.c1, .slice v.p2 v.l2 v.c2], .slice a l c] wx fun e w' => TakT15 t xs wx e w') := fun wx hw => OT v t a l c xs wx ((h.below hb).below hw) ((hL.below hb).below hw)
  have H2 : Hid (∀ wx : World, Below V.heap.size V wx → Calls Try.prog 16 #[.agg #[.slice v.p0 v.l0 v.c0, .slice v.p1 v.l1 v.c1, .slice v.p2 v.l2 v.c2], .slice a l c] wx fun e w' => TakT15 t xs wx e w') := fun wx hw => r15take_any v t a l c xs wx ((h.below hb).below hw) ((hL.below hb).below hw)
  clear h hL hVe hb hG
  go_enter Try.func5, Try.ntmps5
  go_upto_region 1 with fail
  rw [← HVe.out, ← HG.out]
  clear HVe HG
  go_wp2_with fail
  refine Calls.mono (HA.out _) ?_
  rintro e w1 ⟨rfl, hb1⟩
  replace x0 := bkeep hb1 x0 rfl
  replace x1 := bkeep hb1 x1 rfl
  replace x2 := bkeep hb1 x2 rfl
  have HC1 := (show Hid _ from H1.out w1 hb1)
  have HB1 : Hid (Below V.heap.size V w1) := hb1
  clear hb1 HA H1
  dsimp only
  go_wp2_with fail
  refine Calls.mono HC1.out ?_
  rintro e w2 ⟨s, t1, err, rfl, hT, hr, hb2⟩
  have hv2 := balloc w2 (.cells #[.slice s.p0 s.l0 s.c0, .slice s.p1 s.l1 s.c1, .slice s.p2 s.l2 s.c2] 25)
  obtain ⟨W2, hW2⟩ : ∃ W2, W2 = w2.alloc (.cells #[.slice s.p0 s.l0 s.c0, .slice s.p1 s.l1 s.c1, .slice s.p2 s.l2 s.c2] 25) := ⟨_, rfl⟩
  obtain ⟨G2, hG2⟩ : ∃ G2, G2 = w2.heap.size := ⟨_, rfl⟩
  have y0 : W2.cell? ⟨G2, 0, none⟩ = some (.slice s.p0 s.l0 s.c0) := by rw [hW2, hG2]; simp
  have y1 : W2.cell? ⟨G2, 1, none⟩ = some (.slice s.p1 s.l1 s.c1) := by rw [hW2, hG2]; simp
  have y2 : W2.cell? ⟨G2, 2, none⟩ = some (.slice s.p2 s.l2 s.c2) := by rw [hW2, hG2]; simp
  have HW2 : Hid (W2 = w2.alloc (.cells #[.slice s.p0 s.l0 s.c0, .slice s.p1 s.l1 s.c1, .slice s.p2 s.l2 s.c2] 25) ∧ G2 = w2.heap.size) := ⟨hW2, hG2⟩
  rw [← hW2] at hv2
  have hs2 := bthen hb2 hv2
  replace x0 := bkeep hs2 x0 rfl
  replace x1 := bkeep hs2 x1 rfl
  replace x2 := bkeep hs2 x2 rfl
  have HB2 : Hid (Below V.heap.size V W2) := bthen HB1.out hs2
  have HC2 := (show Hid _ from H2.out W2 HB2.out)
  have HZ : Hid (TabAt W2 s t1 ∧ ResTab15 (TakeOk t xs) (t.take xs) err t1) := ⟨(hT.tab).below hv2, hr⟩
  clear hb2 hv2 hs2 HC1 H2 HB1 hT hr hW2 hG2
  dsimp only
  go_upto_region 3 with fail
  rw [← HW2.out.1, ← HW2.out.2]
  clear HW2
  go_wp2_with fail
  refine Calls.mono HC2.out ?_
  rintro e w3 ⟨u, t2, err', rfl, hT, hr, hb3⟩
  obtain ⟨rfl, rfl⟩ := HZ.out.2.unique hr
  have hv3 := balloc w3 (.cells #[.slice u.p0 u.l0 u.c0, .slice u.p1 u.l1 u.c1, .slice u.p2 u.l2 u.c2] 25)
  obtain ⟨W3, hW3⟩ : ∃ W3, W3 = w3.alloc (.cells #[.slice u.p0 u.l0 u.c0, .slice u.p1 u.l1 u.c1, .slice u.p2 u.l2 u.c2] 25) := ⟨_, rfl⟩
  obtain ⟨G3, hG3⟩ : ∃ G3, G3 = w3.heap.size := ⟨_, rfl⟩
  have z0 : W3.cell? ⟨G3, 0, none⟩ = some (.slice u.p0 u.l0 u.c0) := by rw [hW3, hG3]; simp
  have z1 : W3.cell? ⟨G3, 1, none⟩ = some (.slice u.p1 u.l1 u.c1) := by rw [hW3, hG3]; simp
  have z2 : W3.cell? ⟨G3, 2, none⟩ = some (.slice u.p2 u.l2 u.c2) := by rw [hW3, hG3]; simp
  have HW3 : Hid (W3 = w3.alloc (.cells #[.slice u.p0 u.l0 u.c0, .slice u.p1 u.l1 u.c1, .slice u.p2 u.l2 u.c2] 25) ∧ G3 = w3.heap.size) := ⟨hW3, hG3⟩
  rw [← hW3] at hv3
  have hs3 := bthen hb3 hv3
  replace y0 := bkeep hs3 y0 rfl
  replace y1 := bkeep hs3 y1 rfl
  replace y2 := bkeep hs3 y2 rfl
  have HS : Hid (Calls Try.prog 17 #[.agg #[.slice s.p0 s.l0 s.c0, .slice s.p1 s.l1 s.c1, .slice s.p2 s.l2 s.c2], .agg #[.slice u.p0 u.l0 u.c0, .slice u.p1 u.l1 u.c1, .slice u.p2 u.l2 u.c2]] W3 fun e w' => e = .returned (.bool true) ∧ Below W3.heap.size W3 w') := (r15same_any s u t1 t1 W3 (HZ.out.1.below hs3) ((hT.tab).below hv3)).mono fun e w' k => by
    obtain ⟨b, k1, k2, k3⟩ := k
    exact ⟨by rw [k1, k2.2 rfl], k3⟩
  have HB3 : Hid (Below w.heap.size w W3) := bthen HB.out (bthen HB2.out hs3)
  clear HC2 HZ HB2 hb3 hv3 hs3 hr hT hW3 hG3 HB x0 x1 x2
  dsimp only
  go_upto_region 4 with fail
  rw [← HW3.out.1, ← HW3.out.2]
  clear HW3
  go_wp2_with fail
  refine Calls.mono HS.out ?_
  rintro e w4 ⟨rfl, hb4⟩
  have HT : Hid (Below w.heap.size w w4) := bthen HB3.out hb4
  have k1 : (err == err) = true := by simp
  clear HS HB3 hb4 y0 y1 y2 z0 z1 z2
  dsimp only
  go_wp2
  go_ret
  exact ⟨rfl, HT.out⟩
set_option maxRecDepth 20000 in
set_option maxHeartbeats 3200000 in
theorem joins15_walk (OA : AliOk15) (OJ : JoiOk15) (a : Option Addr) (l c : Nat) (ts : List Tab) (w : World) (h : TRows w a l c ts) : Calls Try.prog 6 #[.slice a l c] w fun e w' => e = .returned (.bool true) ∧ Below w.heap.size w w' := by
  have HA := (show Hid (∀ wx : World, _) from fun wx => awake15_any OA wx)
  have H1 : Hid (∀ wx : World, Below w.heap.size w wx → Calls Try.prog 18 #[.slice a l c] wx fun e w' => TabT15 (ResJoin15 ts) wx e w') := fun wx hw => OJ a l c ts wx (h.below hw)
  have H2 : Hid (∀ wx : World, Below w.heap.size w wx → Calls Try.prog 19 #[.slice a l c] wx fun e w' => TabT15 (ResJoin15 ts) wx e w') := fun wx hw => r15join_any a l c ts wx (h.below hw)
  clear h
  go_enter Try.func6, Try.ntmps6
  go_wp2_with fail
  refine Calls.mono (HA.out _) ?_
  rintro e w1 ⟨rfl, hb1⟩
  have HC1 := (show Hid _ from H1.out w1 hb1)
  have HB1 : Hid (Below w.heap.size w w1) := hb1
  clear hb1 HA H1
  dsimp only
  go_wp2_with fail
  refine Calls.mono HC1.out ?_
  rintro e w2 ⟨s, t1, err, rfl, hT, hr, hb2⟩
  have hv2 := balloc w2 (.cells #[.slice s.p0 s.l0 s.c0, .slice s.p1 s.l1 s.c1, .slice s.p2 s.l2 s.c2] 25)
  obtain ⟨W2, hW2⟩ : ∃ W2, W2 = w2.alloc (.cells #[.slice s.p0 s.l0 s.c0, .slice s.p1 s.l1 s.c1, .slice s.p2 s.l2 s.c2] 25) := ⟨_, rfl⟩
  obtain ⟨G2, hG2⟩ : ∃ G2, G2 = w2.heap.size := ⟨_, rfl⟩
  have y0 : W2.cell? ⟨G2, 0, none⟩ = some (.slice s.p0 s.l0 s.c0) := by rw [hW2, hG2]; simp
  have y1 : W2.cell? ⟨G2, 1, none⟩ = some (.slice s.p1 s.l1 s.c1) := by rw [hW2, hG2]; simp
  have y2 : W2.cell? ⟨G2, 2, none⟩ = some (.slice s.p2 s.l2 s.c2) := by rw [hW2, hG2]; simp
  have HW2 : Hid (W2 = w2.alloc (.cells #[.slice s.p0 s.l0 s.c0, .slice s.p1 s.l1 s.c1, .slice s.p2 s.l2 s.c2] 25) ∧ G2 = w2.heap.size) := ⟨hW2, hG2⟩
  rw [← hW2] at hv2
  have hs2 := bthen hb2 hv2
  have HB2 : Hid (Below w.heap.size w W2) := bthen HB1.out hs2
  have HC2 := (show Hid _ from H2.out W2 HB2.out)
  have HZ : Hid (TabAt W2 s t1 ∧ ResJoin15 ts err t1) := ⟨(hT).below hv2, hr⟩
  clear hb2 hv2 hs2 HC1 H2 HB1 hT hr hW2 hG2
  dsimp only
  go_upto_region 3 with fail
  rw [← HW2.out.1, ← HW2.out.2]
  clear HW2
  go_wp2_with fail
  refine Calls.mono HC2.out ?_
  rintro e w3 ⟨u, t2, err', rfl, hT, hr, hb3⟩
  obtain ⟨rfl, rfl⟩ := HZ.out.2.unique hr
  have hv3 := balloc w3 (.cells #[.slice u.p0 u.l0 u.c0, .slice u.p1 u.l1 u.c1, .slice u.p2 u.l2 u.c2] 25)
  obtain ⟨W3, hW3⟩ : ∃ W3, W3 = w3.alloc (.cells #[.slice u.p0 u.l0 u.c0, .slice u.p1 u.l1 u.c1, .slice u.p2 u.l2 u.c2] 25) := ⟨_, rfl⟩
  obtain ⟨G3, hG3⟩ : ∃ G3, G3 = w3.heap.size := ⟨_, rfl⟩
  have z0 : W3.cell? ⟨G3, 0, none⟩ = some (.slice u.p0 u.l0 u.c0) := by rw [hW3, hG3]; simp
  have z1 : W3.cell? ⟨G3, 1, none⟩ = some (.slice u.p1 u.l1 u.c1) := by rw [hW3, hG3]; simp
  have z2 : W3.cell? ⟨G3, 2, none⟩ = some (.slice u.p2 u.l2 u.c2) := by rw [hW3, hG3]; simp
  have HW3 : Hid (W3 = w3.alloc (.cells #[.slice u.p0 u.l0 u.c0, .slice u.p1 u.l1 u.c1, .slice u.p2 u.l2 u.c2] 25) ∧ G3 = w3.heap.size) := ⟨hW3, hG3⟩
  rw [← hW3] at hv3
  have hs3 := bthen hb3 hv3
  replace y0 := bkeep hs3 y0 rfl
  replace y1 := bkeep hs3 y1 rfl
  replace y2 := bkeep hs3 y2 rfl
  have HS : Hid (Calls Try.prog 17 #[.agg #[.slice s.p0 s.l0 s.c0, .slice s.p1 s.l1 s.c1, .slice s.p2 s.l2 s.c2], .agg #[.slice u.p0 u.l0 u.c0, .slice u.p1 u.l1 u.c1, .slice u.p2 u.l2 u.c2]] W3 fun e w' => e = .returned (.bool true) ∧ Below W3.heap.size W3 w') := (r15same_any s u t1 t1 W3 (HZ.out.1.below hs3) ((hT).below hv3)).mono fun e w' k => by
    obtain ⟨b, k1, k2, k3⟩ := k
    exact ⟨by rw [k1, k2.2 rfl], k3⟩
  have HB3 : Hid (Below w.heap.size w W3) := bthen HB2.out hs3
  clear HC2 HZ HB2 hb3 hv3 hs3 hr hT hW3 hG3
  dsimp only
  go_upto_region 4 with fail
  rw [← HW3.out.1, ← HW3.out.2]
  clear HW3
  go_wp2_with fail
  refine Calls.mono HS.out ?_
  rintro e w4 ⟨rfl, hb4⟩
  have HT : Hid (Below w.heap.size w w4) := bthen HB3.out hb4
  have k1 : (err == err) = true := by simp
  clear HS HB3 hb4 y0 y1 y2 z0 z1 z2
  dsimp only
  go_wp2
  go_ret
  exact ⟨rfl, HT.out⟩
set_option maxRecDepth 20000 in
set_option maxHeartbeats 3200000 in
theorem lefts15_walk (OA : AliOk15) (OF : LefOk15) (v : TV) (t : Tab) (col cut : Int) (w : World) (h : TabAt w v t) (h1 : (-9223372036854775808 ≤ col ∧ col < 9223372036854775808)) (h2 : (-9223372036854775808 ≤ cut ∧ cut < 9223372036854775808)) : Calls Try.prog 7 #[.agg #[.slice v.p0 v.l0 v.c0, .slice v.p1 v.l1 v.c1, .slice v.p2 v.l2 v.c2], .int .i64 col, .int .i64 cut] w fun e w' => e = .returned (.bool true) ∧ Below w.heap.size w w' := by
  have hb := balloc w (.cells #[.slice v.p0 v.l0 v.c0, .slice v.p1 v.l1 v.c1, .slice v.p2 v.l2 v.c2] 25)
  obtain ⟨V, hVe⟩ : ∃ V, V = w.alloc (.cells #[.slice v.p0 v.l0 v.c0, .slice v.p1 v.l1 v.c1, .slice v.p2 v.l2 v.c2] 25) := ⟨_, rfl⟩
  have HVe : Hid (V = w.alloc (.cells #[.slice v.p0 v.l0 v.c0, .slice v.p1 v.l1 v.c1, .slice v.p2 v.l2 v.c2] 25)) := hVe
  obtain ⟨G, hG⟩ : ∃ G, G = w.heap.size := ⟨_, rfl⟩
  have HG : Hid (G = w.heap.size) := hG
  have x0 : V.cell? ⟨G, 0, none⟩ = some (.slice v.p0 v.l0 v.c0) := by rw [hVe, hG]; simp
  have x1 : V.cell? ⟨G, 1, none⟩ = some (.slice v.p1 v.l1 v.c1) := by rw [hVe, hG]; simp
  have x2 : V.cell? ⟨G, 2, none⟩ = some (.slice v.p2 v.l2 v.c2) := by rw [hVe, hG]; simp
  rw [← hVe] at hb
  have HB : Hid (Below w.heap.size w V) := hb
  have HA := (show Hid (∀ wx : World, _) from fun wx => awake15_any OA wx)
  have H1 : Hid (∀ wx : World, Below V.heap.size V wx → Calls Try.prog 20 #[.agg #[.slice v.p0 v.l0 v.c0, .slice v.p1 v.l1 v.c1, .slice v.p2 v.l2 v.c2], .int .i64 col, .int .i64 cut] wx fun e w' => LeftT15 t col cut wx e w') := fun wx hw => OF v t col cut wx h1 h2 ((h.below hb).below hw)
  have H2 : Hid (∀ wx : World, Below V.heap.size V wx → Calls Try.prog 21 #[.agg #[.slice v.p0 v.l0 v.c0, .slice v.p1 v.l1 v.c1, .slice v.p2 v.l2 v.c2], .int .i64 col, .int .i64 cut] wx fun e w' => LeftT15 t col cut wx e w') := fun wx hw => r15left_any v t col cut wx ((h.below hb).below hw)
  clear h h1 h2 hVe hb hG
  go_enter Try.func7, Try.ntmps7
  go_upto_region 1 with fail
  rw [← HVe.out, ← HG.out]
  clear HVe HG
  go_wp2_with fail
  refine Calls.mono (HA.out _) ?_
  rintro e w1 ⟨rfl, hb1⟩
  replace x0 := bkeep hb1 x0 rfl
  replace x1 := bkeep hb1 x1 rfl
  replace x2 := bkeep hb1 x2 rfl
  have HC1 := (show Hid _ from H1.out w1 hb1)
  have HB1 : Hid (Below V.heap.size V w1) := hb1
  clear hb1 HA H1
  dsimp only
  go_wp2_with fail
  refine Calls.mono HC1.out ?_
  rintro e w2 ⟨N, a, l, c, ws, err, rfl, hN, hr, hb2⟩
  have hv2 := balloc w2 (.cells #[.int .i64 N, .slice a l c] 42)
  obtain ⟨W2, hW2⟩ : ∃ W2, W2 = w2.alloc (.cells #[.int .i64 N, .slice a l c] 42) := ⟨_, rfl⟩
  obtain ⟨G2, hG2⟩ : ∃ G2, G2 = w2.heap.size := ⟨_, rfl⟩
  have y0 : W2.cell? ⟨G2, 0, none⟩ = some (.int .i64 N) := by rw [hW2, hG2]; simp
  have y1 : W2.cell? ⟨G2, 1, none⟩ = some (.slice a l c) := by rw [hW2, hG2]; simp
  have HW2 : Hid (W2 = w2.alloc (.cells #[.int .i64 N, .slice a l c] 42) ∧ G2 = w2.heap.size) := ⟨hW2, hG2⟩
  rw [← hW2] at hv2
  have hs2 := bthen hb2 hv2
  replace x0 := bkeep hs2 x0 rfl
  replace x1 := bkeep hs2 x1 rfl
  replace x2 := bkeep hs2 x2 rfl
  have HB2 : Hid (Below V.heap.size V W2) := bthen HB1.out hs2
  have HC2 := (show Hid _ from H2.out W2 HB2.out)
  have HZ : Hid (Nums W2 a l c ws ∧ ResLeft t col cut err N ws) := ⟨hN.below hv2, hr⟩
  clear hb2 hv2 hs2 HC1 H2 HB1 hN hr hW2 hG2
  dsimp only
  go_upto_region 3 with fail
  rw [← HW2.out.1, ← HW2.out.2]
  clear HW2
  go_wp2_with fail
  refine Calls.mono HC2.out ?_
  rintro e w3 ⟨M, b, m, d, vs, err', rfl, hN, hr, hb3⟩
  obtain ⟨rfl, rfl, rfl⟩ := HZ.out.2.unique hr
  have hv3 := balloc w3 (.cells #[.int .i64 N, .slice b m d] 42)
  obtain ⟨W3, hW3⟩ : ∃ W3, W3 = w3.alloc (.cells #[.int .i64 N, .slice b m d] 42) := ⟨_, rfl⟩
  obtain ⟨G3, hG3⟩ : ∃ G3, G3 = w3.heap.size := ⟨_, rfl⟩
  have z0 : W3.cell? ⟨G3, 0, none⟩ = some (.int .i64 N) := by rw [hW3, hG3]; simp
  have z1 : W3.cell? ⟨G3, 1, none⟩ = some (.slice b m d) := by rw [hW3, hG3]; simp
  have HW3 : Hid (W3 = w3.alloc (.cells #[.int .i64 N, .slice b m d] 42) ∧ G3 = w3.heap.size) := ⟨hW3, hG3⟩
  rw [← hW3] at hv3
  have hs3 := bthen hb3 hv3
  replace y0 := bkeep hs3 y0 rfl
  replace y1 := bkeep hs3 y1 rfl
  have HS : Hid (Calls Try.prog 22 #[.agg #[.int .i64 N, .slice a l c], .agg #[.int .i64 N, .slice b m d]] W3 fun e w' => e = .returned (.bool true) ∧ Below W3.heap.size W3 w') := (r14same_any N N a b l c m d ws ws W3 (HZ.out.1.below hs3) (hN.below hv3)).mono fun e w' k => ⟨by rw [k.1]; simp, k.2⟩
  have HB3 : Hid (Below w.heap.size w W3) := bthen HB.out (bthen HB2.out hs3)
  clear HC2 HZ HB2 hb3 hv3 hs3 hr hN hW3 hG3 HB x0 x1 x2
  dsimp only
  go_upto_region 4 with fail
  rw [← HW3.out.1, ← HW3.out.2]
  clear HW3
  go_wp2_with fail
  refine Calls.mono HS.out ?_
  rintro e w4 ⟨rfl, hb4⟩
  have HT : Hid (Below w.heap.size w w4) := bthen HB3.out hb4
  have k1 : (err == err) = true := by simp
  clear HS HB3 hb4 y0 y1 z0 z1
  dsimp only
  go_wp2
  go_ret
  exact ⟨rfl, HT.out⟩
end Go.Proofs.Ytaiikhbfnfcalaa

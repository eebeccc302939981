/-
  The document's worth of rows: Score.
  The document's right rows' sums: Right.
  Fractions of scores added and subtracted. Written by mk/r17c.py.
  The document's gain of a split: Gain, its statements. Written by mk/r17d.py.
  The document's gain of a split: Gain. Written by mk/r17d.py.
-/
import Derived.Test.YtchmlfjjgehbkaaGreatD17A
import Derived.Test.YtchmlfjjgehbkaaGreatR16
import Derived.Test.YtchmlfjjgehbkaaGreatR8C
import Derived.Test.YtchmlfjjgehbkaaGreatR8P
import Derived.Test.YtchmlfjjgehbkaaGreatModR
import Derived.Test.YtchmlfjjgehbkaaGreatPieces
namespace Go.Proofs.YtchmlfjjgehbkaaGreat
open Go.RowKit

/-- What is told: a fraction, where it may be asked for; else a fault. -/
def FT17 (P : Prop) (q : Q17) (w : World) (e : Ending) (w' : World) : Prop := (P → FracT none (numF q.1 q.2) (denF q.1 q.2) w e w') ∧ (¬ P → FracT (some 1) 0 0 w e w')
theorem keep17 {w : World} {G s g : Nat} {p0 p1 p2 : Option Value} (h0 : G ≠ g) (h1 : s ≠ g) (x y z : Value)
    (h : w.cell? ⟨G, 1, none⟩ = p0 ∧ w.cell? ⟨s, 0, none⟩ = p1 ∧ w.cell? ⟨s, 1, none⟩ = p2) :
    (((w.setCell ⟨g, 0, none⟩ x).setCell ⟨g, 1, none⟩ y).setCell ⟨g, 2, none⟩ z).cell? ⟨G, 1, none⟩ = p0 ∧ (((w.setCell ⟨g, 0, none⟩ x).setCell ⟨g, 1, none⟩ y).setCell ⟨g, 2, none⟩ z).cell? ⟨s, 0, none⟩ = p1 ∧ (((w.setCell ⟨g, 0, none⟩ x).setCell ⟨g, 1, none⟩ y).setCell ⟨g, 2, none⟩ z).cell? ⟨s, 1, none⟩ = p2 :=
  ⟨(put3_other h0 x y z).trans h.1, (put3_other h1 x y z).trans h.2.1, (put3_other h1 x y z).trans h.2.2⟩
theorem run_mag17 (ob : Bool) (oa : Option Addr) (ol oc : Nat) (w : World) : Sem.run Tryz.prog (Instr.field 28 (.agg #[.bool ob, .slice oa ol oc]) 1) w = .ok (.slice oa ol oc) w := by
  simp [Instr.field, run_underlying Tryz.underlying28, go_sem, asAgg, part]
attribute [local go_sem] run_mag17
set_option maxRecDepth 20000 in
set_option maxHeartbeats 20000000 in
theorem r17score_any (l G H : Int) (w : World) (hl : -9223372036854775808 ≤ l ∧ l < 9223372036854775808) : Calls Tryz.prog 19 #[.int .i64 l, .agg #[.int .i64 G, .int .i64 H]] w fun e w' => FT17 (ScoreArg l G H) (scoreQ l G H) w e w' := by
  obtain ⟨V, hVe⟩ : ∃ V, V = ((w.alloc (.cells #[.int .i64 G, .int .i64 H] 23)).alloc (.cells #[.bool false, .slice none 0 0, .slice none 0 0] 30)) := ⟨_, rfl⟩
  have hv1 := balloc w (.cells #[.int .i64 G, .int .i64 H] 23)
  have hv2 := balloc (w.alloc (.cells #[.int .i64 G, .int .i64 H] 23)) (.cells #[.bool false, .slice none 0 0, .slice none 0 0] 30)
  have hV := bthen hv1 hv2
  have hR := Cell3.new (w.alloc (.cells #[.int .i64 G, .int .i64 H] 23)) false none none 0 0 0 0
  have hS := heap_alloc_new w (.cells #[.int .i64 G, .int .i64 H] 23)
  have x0 : V.cell? ⟨w.heap.size, 0, none⟩ = some (.int .i64 G) := by rw [hVe]; exact bkeep hv2 (by rw [cell_of_row _ _ _ _ _ _ hS]; rfl) rfl
  have x1 : V.cell? ⟨w.heap.size, 1, none⟩ = some (.int .i64 H) := by rw [hVe]; exact bkeep hv2 (by rw [cell_of_row _ _ _ _ _ _ hS]; rfl) rfl
  simp only [World.size_alloc] at hR
  rw [← hVe] at hV hR
  have HVe : Hid (V = ((w.alloc (.cells #[.int .i64 G, .int .i64 H] 23)).alloc (.cells #[.bool false, .slice none 0 0, .slice none 0 0] 30))) := hVe
  clear hv1 hv2 hVe hS
  go_enter Tryz.func19, Tryz.ntmps19
  go_wp2_with fail
  rw [← HVe.out]
  obtain ⟨g, hg⟩ : ∃ g, g = w.heap.size := ⟨_, rfl⟩
  rw [← hg] at hR x0 x1
  rw [← hg]
  have HG : Hid (g = w.heap.size) := hg
  clear HVe hg
  refine Calls.mono (r16sum_any G H V) ?_
  rintro e w1 ⟨z, rfl, hz, hb1⟩
  have hB1 := bthen hV hb1
  replace x0 := bkeep hb1 x0 rfl
  replace x1 := bkeep hb1 x1 rfl
  replace hR := hR.below hb1
  clear hb1 hV
  have bad : ¬ ScoreArg l G H → ∀ W : World, W = ((w1.setCell ⟨g + 1, 0, none⟩ (.bool false)).setCell ⟨g + 1, 1, none⟩ (.slice none 0 0)).setCell ⟨g + 1, 2, none⟩ (.slice none 0 0) → FT17 (ScoreArg l G H) (scoreQ l G H) w (.returned (.tuple #[.agg #[.bool false, .slice none 0 0, .slice none 0 0], .int .i64 1])) W := by
    rintro hn W rfl
    have hBB := put3_below hB1 (g := g + 1) (by rw [HG.out]; omega) (.bool false) (.slice none 0 0) (.slice none 0 0)
    exact ⟨fun e => absurd e hn, fun _ => ⟨false, none, 0, 0, none, 0, 0, [], [], 1, rfl, ⟨Nums.nil _, Nums.nil _⟩, ToldF.bad rfl, hBB⟩⟩
  have HBad : Hid _ := bad
  clear bad
  cases z with
  | false =>
    have HX : Hid (¬ ScoreArg l G H) := fun e => by have := hz.2 e.2; cases this
    obtain ⟨r0, r1, r2, f0, f1, f2⟩ := hR
    clear hB1 hz x0 x1 HG hl
    go_wp2_with fail
    exact bodyPost_ret (v := .tuple #[.agg #[.bool false, .slice none 0 0, .slice none 0 0], .int .i64 1]) (by simp [results, Tryz.results19, go_sem, r0, r1, r2]) rfl (HBad.out HX.out _ rfl)
  | true =>
  have hsm := hz.1 rfl
  by_cases q1 : l < 1
  case pos =>
    have d1 : decide (l < 1) = true := decide_eq_true q1
    have HX : Hid (¬ ScoreArg l G H) := fun e => by have := e.1.1; omega
    obtain ⟨r0, r1, r2, f0, f1, f2⟩ := hR
    clear hB1 hz x0 x1 HG hl q1 hsm
    go_wp2_with fail
    exact bodyPost_ret (v := .tuple #[.agg #[.bool false, .slice none 0 0, .slice none 0 0], .int .i64 1]) (by simp [results, Tryz.results19, go_sem, r0, r1, r2]) rfl (HBad.out HX.out _ rfl)
  have d1 : decide (l < 1) = false := decide_eq_false q1
  by_cases q2 : 1048576 < l
  case pos =>
    have d2 : decide (1048576 < l) = true := decide_eq_true q2
    have HX : Hid (¬ ScoreArg l G H) := fun e => by have := e.1.2; omega
    obtain ⟨r0, r1, r2, f0, f1, f2⟩ := hR
    clear hB1 hz x0 x1 HG hl q1 q2 hsm
    go_wp2_with fail
    exact bodyPost_ret (v := .tuple #[.agg #[.bool false, .slice none 0 0, .slice none 0 0], .int .i64 1]) (by simp [results, Tryz.results19, go_sem, r0, r1, r2]) rfl (HBad.out HX.out _ rfl)
  have d2 : decide (1048576 < l) = false := decide_eq_false q2
  have hP : ScoreArg l G H := ⟨⟨by omega, by omega⟩, hsm⟩
  have bG : -9223372036854775808 ≤ G ∧ G < 9223372036854775808 := by have := hsm.1; have := hsm.2.1; omega
  have hwG : IntKind.i64.wrap G = G := by rw [IntKind.wrap_i64]; omega
  have HOG : Hid _ := refIOf_any G w1 bG
  have HP : Hid (ScoreArg l G H ∧ (-9223372036854775808 ≤ G ∧ G < 9223372036854775808)) := ⟨hP, bG⟩
  clear HBad hz hl q1 q2 hsm hP bG
  go_wp2_with fail
  refine Calls.mono HOG.out ?_
  rintro e w2 ⟨a2, n2, c2, rfl, hn2, hb2⟩
  have hB2 := bthen hB1 hb2
  replace x1 := bkeep hb2 x1 rfl
  replace hR := hR.below hb2
  obtain ⟨sg, hsg⟩ : ∃ sg, sg = decide (G < 0) := ⟨_, rfl⟩
  rw [← hsg]
  have hb3 := balloc w2 (.cells #[.bool sg, .slice a2 n2 c2] 28)
  obtain ⟨W3, hW3⟩ : ∃ W3, W3 = w2.alloc (.cells #[.bool sg, .slice a2 n2 c2] 28) := ⟨_, rfl⟩
  have hMul := refIMul_any sg sg a2 a2 n2 c2 n2 c2 _ _ W3 (hn2.below (by rw [hW3]; exact hb3)) (hn2.below (by rw [hW3]; exact hb3))
  replace x1 := bkeep hb3 x1 rfl
  replace hR := hR.below hb3
  have hB3 := bthen hB2 hb3
  rw [← hW3] at x1 hR hB3
  have HM : Hid _ := hMul
  have HW3 : Hid (W3 = w2.alloc (.cells #[.bool sg, .slice a2 n2 c2] 28)) := hW3
  have HSg : Hid (sg = decide (G < 0)) := hsg
  clear HOG hb2 hb3 hB1 hB2 x0 hn2 hMul hW3 hsg
  dsimp only
  go_wp2_with fail
  rw [← HW3.out]
  refine Calls.mono HM.out ?_
  rintro e w4 ⟨q, a4, n4, c4, ls, err, rfl, hn4, hRes, hb4⟩
  have hIs : IsW sg (ofZ (sz G)) G := by rw [HSg.out]; exact IsW.of HP.out.2
  have hgot := hRes.got hIs.2.1 hIs.2.1
  rw [hIs.2.2] at hgot
  have hbig : ((G * G).natAbs : Int) < 18446744073709551616 ^ 64 := by
    have := sq_size17 HP.out.1.2.1 HP.out.1.2.2.1
    exact Int.lt_of_le_of_lt (show (((G * G).natAbs : Nat) : Int) ≤ 1208925819614629174706176 by omega) (by decide)
  obtain ⟨hW4, rfl⟩ := IsW.res hgot hbig
  replace x1 := bkeep hb4 x1 rfl
  replace hR := hR.below hb4
  have hB4 := bthen hB3 hb4
  clear hRes hgot hbig hIs HM HW3 HSg hB3 hb4 d1 d2 hwG
  have hb5 := balloc w4 (.cells #[.bool q, .slice a4 n4 c4] 28)
  obtain ⟨y0, y1⟩ := Cell2.new w4 q a4 n4 c4
  obtain ⟨W, hW⟩ : ∃ W, W = w4.alloc (.cells #[.bool q, .slice a4 n4 c4] 28) := ⟨_, rfl⟩
  obtain ⟨s, hs⟩ : ∃ s, s = w4.heap.size := ⟨_, rfl⟩
  replace x1 := bkeep hb5 x1 rfl
  have hsz : g + 1 < w4.heap.size := hR.lt
  replace hR := hR.below hb5
  have hB := bthen hB4 hb5
  replace hn4 := hn4.below hb5
  rw [← hW] at x1 hR hB hn4 y0 y1
  rw [← hs] at y0 y1 hsz
  have HW : Hid (W = w4.alloc (.cells #[.bool q, .slice a4 n4 c4] 28) ∧ s = w4.heap.size) := ⟨hW, hs⟩
  obtain ⟨A, hA⟩ : ∃ A, A = H + l := ⟨_, rfl⟩
  have hpos := scoreQ_pos HP.out.1
  have bA : -9223372036854775808 ≤ A ∧ A < 9223372036854775808 := by rw [hA]; have := hpos.1; omega
  have hwn : RowKit.wrap64 A = A := by unfold RowKit.wrap64; omega
  have hwm : IntKind.i64.wrap A = A := by rw [IntKind.wrap_i64]; omega
  have eA : H + l = A := hA.symm
  have HRB : Hid (Below W.heap.size W W) := Below.refl _ _
  have HOf : Hid (∀ wx : World, Below W.heap.size W wx → Calls Tryz.prog 31 #[.int .i64 A] wx fun e w' => ∃ ob oa ol oc, e = .returned (.agg #[.bool ob, .slice oa ol oc]) ∧ Hid (WAt w' ob oa ol oc A ∧ Below W.heap.size W w') ∧ (w'.cell? ⟨g, 1, none⟩ = some (.int .i64 H) ∧ w'.cell? ⟨s, 0, none⟩ = some (.bool q) ∧ w'.cell? ⟨s, 1, none⟩ = some (.slice a4 n4 c4))) := by
    intro wx hbx
    refine (refIOf_any A wx bA).mono ?_
    rintro e w' ⟨a', n', c', rfl, hn, hb⟩
    have hb' := bthen hbx hb
    exact ⟨_, _, _, _, rfl, ⟨⟨_, hn, IsW.of bA⟩, hb'⟩, bkeep hb' x1 rfl, bkeep hb' y0 rfl, bkeep hb' y1 rfl⟩
  have HMk : Hid (∀ (wx : World) ob oa ol oc, (WAt wx ob oa ol oc A ∧ Below W.heap.size W wx) → Calls Tryz.prog 30 #[.agg #[.bool q, .slice a4 n4 c4], .slice oa ol oc] wx fun e w' => ∃ zb za zl zc za' zl' zc' err, e = .returned (.tuple #[.agg #[.bool zb, .slice za zl zc, .slice za' zl' zc'], .int .i64 err]) ∧ Hid (∃ zs zs', Nums w' za zl zc zs ∧ Nums w' za' zl' zc' zs' ∧ ToldF none (numF (scoreQ l G H).1 (scoreQ l G H).2) (denF (scoreQ l G H).1 (scoreQ l G H).2) zb zs zs' err ∧ Below W.heap.size W w') ∧ Cell3 w' (g + 1) false none 0 0 none 0 0 ∧ (w'.cell? ⟨g, 1, none⟩ = some (.int .i64 H) ∧ w'.cell? ⟨s, 0, none⟩ = some (.bool q) ∧ w'.cell? ⟨s, 1, none⟩ = some (.slice a4 n4 c4))) := by
    rintro wx ob oa ol oc ⟨⟨os, ho, hoW⟩, hbx⟩
    have hmk := r8make_any q _ _ _ _ _ _ ls os wx (hn4.below hbx) ho
    have e1 : iv q ls = (scoreQ l G H).1 := hW4.2.2
    have e2 : nv os = (scoreQ l G H).2 := by rw [hoW.mag.nv]; have := hpos.2.1; have := hpos.1; omega
    have e3 : makeFF q ls os = none := by
      unfold makeFF
      rw [hW4.2.1, hoW.right, e1, e2]
      exact makF_score17 HP.out.1
    rw [e3, e1, e2] at hmk
    refine hmk.mono ?_
    rintro e w' ⟨zb, za, zl, zc, za', zl', zc', zs, zs', err, rfl, ⟨hZ, hZ'⟩, hTold, hb⟩
    have hb' := bthen hbx hb
    exact ⟨zb, za, zl, zc, za', zl', zc', err, rfl, ⟨zs, zs', hZ, hZ', hTold, hb'⟩, hR.below hb', bkeep hb' x1 rfl, bkeep hb' y0 rfl, bkeep hb' y1 rfl⟩
  have HSz : Hid (g + 1 < s ∧ Below w.heap.size w W) := ⟨hsz, hB⟩
  clear hR hn4 hW4 hpos bA hA hsz hB hW hs hB4 hb5
  dsimp only
  go_wp2_with fail
  rw [← HW.out.1, ← HW.out.2]
  have sz' := HSz.out.1
  go_region_held3 (fun w' => (w'.cell? ⟨g, 1, none⟩ = some (.int .i64 H) ∧ w'.cell? ⟨s, 0, none⟩ = some (.bool q) ∧ w'.cell? ⟨s, 1, none⟩ = some (.slice a4 n4 c4))) (first | exact n6 | exact o6 | exact keep17 (by omega) (by omega) _ _ _ o6 | go_keep)
    (first
    | (go_at_call 31; with_reducible refine Calls.mono (HOf.out _ ?_) ?_; (focus (repeat (first | exact HRB.out | refine bdrawD ?_ | refine bgrowD ?_ _))); rintro e w6 ⟨ob, oa, ol, oc, rfl, hA, n6⟩)
    | (go_at_call 30; with_reducible refine Calls.mono (HMk.out _ ob oa ol oc ?_) ?_; (exact hA.out); rintro e w7 ⟨zb, za, zl, zc, za', zl', zc', err, rfl, hZ, ⟨r0, r1, r2, f0, f1, f2⟩, o6⟩))
  all_goals
    clear HOf HMk HRB hA
    go_wp2_with fail
    obtain ⟨zs, zs', hZ1, hZ2, hTold, hb7⟩ := hZ.out
    have hRc : Cell3 w7 (g + 1) false none 0 0 none 0 0 := ⟨r0, r1, r2, f0, f1, f2⟩
    have k1 := Nums.put3 hRc hZ1 (.bool zb) (.slice za zl zc) (.slice za' zl' zc')
    have k2 := Nums.put3 hRc hZ2 (.bool zb) (.slice za zl zc) (.slice za' zl' zc')
    have hBB := put3_below (bthen HSz.out.2 hb7) (g := g + 1) (by rw [HG.out]; omega) (.bool zb) (.slice za zl zc) (.slice za' zl' zc')
    exact bodyPost_ret (v := .tuple #[.agg #[.bool zb, .slice za zl zc, .slice za' zl' zc'], .int .i64 err]) (by simp [results, Tryz.results19, go_sem, r0, r1, r2]) rfl ⟨fun _ => ⟨zb, za, zl, zc, za', zl', zc', zs, zs', err, rfl, ⟨k1, k2⟩, hTold, hBB⟩, fun e => absurd HP.out.1 e⟩
end Go.Proofs.YtchmlfjjgehbkaaGreat

namespace Go.Proofs.YtchmlfjjgehbkaaGreat
open Go.RowKit

def RightT17 (G H A B : Int) (w : World) (e : Ending) (w' : World) : Prop := ∃ x y b, e = .returned (.tuple #[.agg #[.int .i64 x, .int .i64 y], .bool b]) ∧ (b = true ↔ SumOk G H ∧ SumOk A B ∧ SumOk (A - G) (B - H)) ∧ (b = true → x = A - G ∧ y = B - H) ∧ Below w.heap.size w w'
theorem put2_below17 {B : Nat} {a w : World} (h : Below B a w) {g : Nat} (hg : B ≤ g) (x y : Value) : Below B a ((w.setCell ⟨g, 0, none⟩ x).setCell ⟨g, 1, none⟩ y) :=
  (h.setCell hg _).setCell hg _
/-- The cells of a variable that holds sums, and that may be stored to. -/
structure SCell17 (w : World) (g : Nat) (x y : Int) : Prop where
  c0 : w.cell? ⟨g, 0, none⟩ = some (.int .i64 x)
  c1 : w.cell? ⟨g, 1, none⟩ = some (.int .i64 y)
  f0 : w.frozen? ⟨g, 0, none⟩ = false
  f1 : w.frozen? ⟨g, 1, none⟩ = false
theorem SCell17.lt {w : World} {g : Nat} {x y : Int} (h : SCell17 w g x y) : g < w.heap.size := World.block_lt_of_cell? _ _ h.c0
theorem SCell17.below {w w' : World} {g : Nat} {x y : Int} (h : SCell17 w g x y) (hb : Below w.heap.size w w') : SCell17 w' g x y :=
  ⟨bkeep hb h.c0 rfl, bkeep hb h.c1 rfl, ((bcell hb).2 _ _ h.lt).trans h.f0, ((bcell hb).2 _ _ h.lt).trans h.f1⟩
theorem SCell17.new (w : World) (x y : Int) : SCell17 (w.alloc (.cells #[.int .i64 x, .int .i64 y] 23)) w.heap.size x y :=
  ⟨by simp, by simp, by simp, by simp⟩
set_option maxRecDepth 20000 in
set_option maxHeartbeats 20000000 in
theorem r17right_any (G H A B : Int) (w : World) : Calls Tryz.prog 18 #[.agg #[.int .i64 G, .int .i64 H], .agg #[.int .i64 A, .int .i64 B]] w fun e w' => RightT17 G H A B w e w' := by
  obtain ⟨V, hVe⟩ : ∃ V, V = (((w.alloc (.cells #[.int .i64 G, .int .i64 H] 23)).alloc (.cells #[.int .i64 A, .int .i64 B] 23)).alloc (.cells #[.int .i64 0, .int .i64 0] 23)) := ⟨_, rfl⟩
  have hv1 := balloc w (.cells #[.int .i64 G, .int .i64 H] 23)
  have hv2 := balloc (w.alloc (.cells #[.int .i64 G, .int .i64 H] 23)) (.cells #[.int .i64 A, .int .i64 B] 23)
  have hv3 := balloc ((w.alloc (.cells #[.int .i64 G, .int .i64 H] 23)).alloc (.cells #[.int .i64 A, .int .i64 B] 23)) (.cells #[.int .i64 0, .int .i64 0] 23)
  have hV := bthen (bthen hv1 hv2) hv3
  have s1 : SVar (w.alloc (.cells #[.int .i64 G, .int .i64 H] 23)) w.heap.size G H := heap_alloc_new w _
  have s2 : SVar ((w.alloc (.cells #[.int .i64 G, .int .i64 H] 23)).alloc (.cells #[.int .i64 A, .int .i64 B] 23)) (w.heap.size + 1) A B := by
    have := heap_alloc_new (w.alloc (.cells #[.int .i64 G, .int .i64 H] 23)) (.cells #[.int .i64 A, .int .i64 B] 23)
    rw [show (w.alloc (.cells #[.int .i64 G, .int .i64 H] 23)).heap.size = w.heap.size + 1 by simp] at this
    exact this
  have s3 : SCell17 V (w.heap.size + 1 + 1) 0 0 := by
    have := SCell17.new ((w.alloc (.cells #[.int .i64 G, .int .i64 H] 23)).alloc (.cells #[.int .i64 A, .int .i64 B] 23)) 0 0
    rw [show ((w.alloc (.cells #[.int .i64 G, .int .i64 H] 23)).alloc (.cells #[.int .i64 A, .int .i64 B] 23)).heap.size = w.heap.size + 1 + 1 by simp] at this
    rw [hVe]
    exact this
  replace s1 := s1.below (bthen hv2 hv3)
  replace s2 := s2.below hv3
  rw [← hVe] at hV s1 s2
  have HVe : Hid (V = (((w.alloc (.cells #[.int .i64 G, .int .i64 H] 23)).alloc (.cells #[.int .i64 A, .int .i64 B] 23)).alloc (.cells #[.int .i64 0, .int .i64 0] 23))) := hVe
  clear hv1 hv2 hv3 hVe
  obtain ⟨x0, x1⟩ := s1.cell
  obtain ⟨y0, y1⟩ := s2.cell
  have hsz := s3.lt
  clear s1 s2
  go_enter Tryz.func18, Tryz.ntmps18
  go_wp2_with fail
  rw [← HVe.out]
  obtain ⟨g, hg⟩ : ∃ g, g = w.heap.size := ⟨_, rfl⟩
  rw [← hg] at x0 x1 y0 y1 s3 hsz
  rw [← hg]
  have HG : Hid (g = w.heap.size) := hg
  clear HVe hg
  refine Calls.mono (r16sum_any G H V) ?_
  rintro e w1 ⟨a, rfl, ha, hb1⟩
  have HB1 : Hid (Below w.heap.size w w1 ∧ (a = true ↔ SumOk G H) ∧ g + 1 + 1 < w1.heap.size) := ⟨bthen hV hb1, ha, Nat.lt_of_lt_of_le hsz hb1.size⟩
  replace x0 := bkeep hb1 x0 rfl
  replace x1 := bkeep hb1 x1 rfl
  replace y0 := bkeep hb1 y0 rfl
  replace y1 := bkeep hb1 y1 rfl
  replace s3 := s3.below hb1
  clear hb1 hV ha hsz
  dsimp only
  go_wp2_with fail
  refine Calls.mono (r16sum_any A B w1) ?_
  rintro e w2 ⟨b, rfl, hb, hb2⟩
  have HB2 : Hid (Below w.heap.size w w2 ∧ (a = true ↔ SumOk G H) ∧ (b = true ↔ SumOk A B) ∧ g + 1 + 1 < w2.heap.size) := ⟨bthen HB1.out.1 hb2, HB1.out.2.1, hb, Nat.lt_of_lt_of_le HB1.out.2.2 hb2.size⟩
  replace x0 := bkeep hb2 x0 rfl
  replace x1 := bkeep hb2 x1 rfl
  replace y0 := bkeep hb2 y0 rfl
  replace y1 := bkeep hb2 y1 rfl
  replace s3 := s3.below hb2
  clear hb2 HB1 hb
  have HBad : Hid (¬ (a = true ∧ b = true) → ∀ W : World, W = (w2.setCell ⟨g + 1 + 1, 0, none⟩ (.int .i64 0)).setCell ⟨g + 1 + 1, 1, none⟩ (.int .i64 0) → RightT17 G H A B w (.returned (.tuple #[.agg #[.int .i64 0, .int .i64 0], .bool false])) W) := by
    rintro hn W rfl
    exact ⟨0, 0, false, rfl, ⟨fun e => (by cases e), fun e => absurd ⟨HB2.out.2.1.2 e.1, HB2.out.2.2.1.2 e.2.1⟩ hn⟩, fun e => (by cases e), put2_below17 HB2.out.1 (by rw [HG.out]; omega) _ _⟩
  cases a with
  | false =>
    obtain ⟨r0, r1, f0, f1⟩ := s3
    clear HB2 x0 x1 y0 y1 HG
    go_wp2_with fail
    exact bodyPost_ret (v := .tuple #[.agg #[.int .i64 0, .int .i64 0], .bool false]) (by simp [results, Tryz.results18, go_sem, r0, r1]) rfl (HBad.out (fun e => by cases e.1) _ rfl)
  | true =>
  cases b with
  | false =>
    obtain ⟨r0, r1, f0, f1⟩ := s3
    clear HB2 x0 x1 y0 y1 HG
    go_wp2_with fail
    exact bodyPost_ret (v := .tuple #[.agg #[.int .i64 0, .int .i64 0], .bool false]) (by simp [results, Tryz.results18, go_sem, r0, r1]) rfl (HBad.out (fun e => by cases e.2) _ rfl)
  | true =>
  have k1 := HB2.out.2.1.1 rfl
  have k2 := HB2.out.2.2.1.1 rfl
  obtain ⟨p, hp⟩ : ∃ p, p = A - G := ⟨_, rfl⟩
  obtain ⟨q, hq⟩ : ∃ q, q = B - H := ⟨_, rfl⟩
  have e1 : A - G = p := hp.symm
  have e2 : B - H = q := hq.symm
  have bp : -9223372036854775808 ≤ p ∧ p < 9223372036854775808 := by have := k1.1; have := k1.2.1; have := k2.1; have := k2.2.1; omega
  have bq : -9223372036854775808 ≤ q ∧ q < 9223372036854775808 := by have := k1.2.2; have := k2.2.2; omega
  have w1p : RowKit.wrap64 p = p := by unfold RowKit.wrap64; omega
  have w2p : IntKind.i64.wrap p = p := by rw [IntKind.wrap_i64]; omega
  have w1q : RowKit.wrap64 q = q := by unfold RowKit.wrap64; omega
  have w2q : IntKind.i64.wrap q = q := by rw [IntKind.wrap_i64]; omega
  have HK : Hid (SumOk G H ∧ SumOk A B ∧ p = A - G ∧ q = B - H) := ⟨k1, k2, hp, hq⟩
  have hb3 := balloc w2 (.cells #[.int .i64 p, .int .i64 q] 23)
  have hr : SVar (w2.alloc (.cells #[.int .i64 p, .int .i64 q] 23)) w2.heap.size p q := heap_alloc_new w2 _
  obtain ⟨W, hW⟩ : ∃ W, W = w2.alloc (.cells #[.int .i64 p, .int .i64 q] 23) := ⟨_, rfl⟩
  obtain ⟨s, hs⟩ : ∃ s, s = w2.heap.size := ⟨_, rfl⟩
  have s4 := s3.below hb3
  have hsz : g + 1 + 1 < s := by rw [hs]; exact HB2.out.2.2.2
  have hBW := bthen HB2.out.1 hb3
  rw [← hW] at s4 hBW hr
  rw [← hs] at hr
  obtain ⟨z0, z1⟩ := hr.cell
  have HW : Hid (W = w2.alloc (.cells #[.int .i64 p, .int .i64 q] 23) ∧ s = w2.heap.size) := ⟨hW, hs⟩
  have HBW : Hid (Below w.heap.size w W) := hBW
  have HS : Hid (∀ wx : World, Below W.heap.size W wx → Calls Tryz.prog 29 #[.agg #[.int .i64 p, .int .i64 q]] wx fun e w' => ∃ c, e = .returned (.bool c) ∧ Hid ((c = true ↔ SumOk p q) ∧ Below W.heap.size W w') ∧ (w'.cell? ⟨s, 0, none⟩ = some (.int .i64 p) ∧ w'.cell? ⟨s, 1, none⟩ = some (.int .i64 q)) ∧ SCell17 w' (g + 1 + 1) 0 0) := by
    intro wx hbx
    refine (r16sum_any p q wx).mono ?_
    rintro e w' ⟨c, rfl, hc, hb⟩
    have hb' := bthen hbx hb
    exact ⟨c, rfl, ⟨hc, hb'⟩, ⟨bkeep hb' z0 rfl, bkeep hb' z1 rfl⟩, s4.below hb'⟩
  have HRB : Hid (Below W.heap.size W W) := Below.refl _ _
  clear HBad HB2 k1 k2 hp hq bp bq hb3 hW hs hBW hr s3 s4
  dsimp only
  go_wp2_with fail
  rw [← HW.out.1, ← HW.out.2]
  go_region_held3 (fun w' => (w'.cell? ⟨s, 0, none⟩ = some (.int .i64 p) ∧ w'.cell? ⟨s, 1, none⟩ = some (.int .i64 q))) (first | exact n6 | exact ⟨(put2_other (by omega) _ _).trans n6.1, (put2_other (by omega) _ _).trans n6.2⟩ | go_keep)
    (first
    | (go_at_call 29; with_reducible refine Calls.mono (HS.out _ ?_) ?_; (focus (repeat (first | exact HRB.out | refine bdrawD ?_ | refine bgrowD ?_ _))); rintro e w6 ⟨c, rfl, hA, n6, ⟨m0, m1, f0, f1⟩⟩))
  all_goals
    clear HS HRB
    go_wp2_with fail
    have hbb := put2_below17 (bthen HBW.out hA.out.2) (g := g + 1 + 1) (by rw [HG.out]; omega) (.int .i64 p) (.int .i64 q)
    have hcc : c = true ↔ SumOk G H ∧ SumOk A B ∧ SumOk (A - G) (B - H) := by
      have hk := HK.out
      rw [hA.out.1, ← hk.2.2.1, ← hk.2.2.2]
      exact ⟨fun e => ⟨hk.1, hk.2.1, e⟩, fun e => e.2.2⟩
    exact bodyPost_ret (v := .tuple #[.agg #[.int .i64 p, .int .i64 q], .bool c]) (by simp [results, Tryz.results18, go_sem, m0, m1]) rfl ⟨p, q, c, rfl, hcc, fun _ => HK.out.2.2, hbb⟩
end Go.Proofs.YtchmlfjjgehbkaaGreat

namespace Go.Proofs.YtchmlfjjgehbkaaGreat
open Go.RowKit

/-- A fraction lies there, in lowest terms. -/
def FrAt17 (w : World) (m : Bool) (p : Option Addr) (l c : Nat) (p' : Option Addr) (l' c' : Nat) (q : Q17) : Prop := ∃ us vs, Nums w p l c us ∧ Nums w p' l' c' vs ∧ IsW m us (numF q.1 q.2) ∧ IsN vs (denF q.1 q.2)
theorem FrAt17.below {w w' : World} {m : Bool} {p : Option Addr} {l c : Nat} {p' : Option Addr} {l' c' : Nat} {q : Q17} (h : FrAt17 w m p l c p' l' c' q) (hb : Below w.heap.size w w') : FrAt17 w' m p l c p' l' c' q := by
  obtain ⟨us, vs, h1, h2, h3⟩ := h
  exact ⟨us, vs, h1.below hb, h2.below hb, h3⟩
theorem FT17.ok {P : Prop} {q : Q17} {w : World} {e : Ending} {w' : World} (h : FT17 P q w e w') (hp : P) : ∃ m p l c p' l' c', e = .returned (.tuple #[.agg #[.bool m, .slice p l c, .slice p' l' c'], .int .i64 0]) ∧ FrAt17 w' m p l c p' l' c' q ∧ Below w.heap.size w w' := by
  obtain ⟨m, p, l, c, p', l', c', us, vs, err, he, ⟨h1, h2⟩, ht, hb⟩ := h.1 hp
  rcases ht with ⟨e1, e2, -, -⟩ | ⟨-, ⟨h3, h4⟩, rfl⟩
  · cases e2
  · exact ⟨m, p, l, c, p', l', c', he, ⟨us, vs, h1, h2, h3, h4⟩, hb⟩
theorem right_low17 {q : Q17} (h0 : 0 < q.2) (h1 : q.1.natAbs < 18446744073709551616 ^ 16) (h2 : q.2 < 18446744073709551616 ^ 16) {m : Bool} {us vs : List Int} (hW : IsW m us (numF q.1 q.2)) (hN : IsN vs (denF q.1 q.2)) : rightF m us vs = true :=
  right_of8 hW hN (Nat.lt_of_le_of_lt (numF_le17 _ _) h1) (Nat.lt_of_le_of_lt (denF_le17 _ _) h2) (den_pos h0) (num_den h0)
set_option maxRecDepth 20000 in
theorem add17_any {l G H A B : Int} (hP : GainArg l G H A B) {w : World} {m1 m2 : Bool} {p1 p2 p3 p4 : Option Addr} {l1 c1 l2 c2 l3 c3 l4 c4 : Nat} (h1 : FrAt17 w m1 p1 l1 c1 p2 l2 c2 (scoreQ l G H)) (h2 : FrAt17 w m2 p3 l3 c3 p4 l4 c4 (scoreQ l (A - G) (B - H))) :
    Calls Tryz.prog 20 #[.agg #[.bool m1, .slice p1 l1 c1, .slice p2 l2 c2], .agg #[.bool m2, .slice p3 l3 c3, .slice p4 l4 c4]] w fun e w' => ∃ m p k n p' k' n', e = .returned (.tuple #[.agg #[.bool m, .slice p k n, .slice p' k' n'], .int .i64 0]) ∧ FrAt17 w' m p k n p' k' n' (bothQ l G H A B) ∧ Below w.heap.size w w' := by
  obtain ⟨us, vs, n1, n2, hW, hN⟩ := h1
  obtain ⟨us', vs', n3, n4, hW', hN'⟩ := h2
  obtain ⟨a1, a2, a3⟩ := gain_args17 hP
  have hq1 := (show _ ∧ _ ∧ _ from ⟨(scoreQ_pos a1).1, score_fits17 a1⟩)
  have hq2 := (show _ ∧ _ ∧ _ from ⟨(scoreQ_pos a2).1, score_fits17 a2⟩)
  have hr1 := right_low17 hq1.1 hq1.2.1 hq1.2.2 hW hN
  have hr2 := right_low17 hq2.1 hq2.2.1 hq2.2.2 hW' hN'
  have hT : addT m1 us vs m2 us' vs' = numF (scoreQ l G H).1 (scoreQ l G H).2 * (denF (scoreQ l (A - G) (B - H)).1 (scoreQ l (A - G) (B - H)).2 : Int) + numF (scoreQ l (A - G) (B - H)).1 (scoreQ l (A - G) (B - H)).2 * (denF (scoreQ l G H).1 (scoreQ l G H).2 : Int) := by
    unfold addT
    rw [hW.2.2, hW'.2.2, hN.nv, hN'.nv]
  have hD : nv vs * nv vs' = denF (scoreQ l G H).1 (scoreQ l G H).2 * denF (scoreQ l (A - G) (B - H)).1 (scoreQ l (A - G) (B - H)).2 := by rw [hN.nv, hN'.nv]
  obtain ⟨k1, k2⟩ := add_scores17 hP
  have hf : arF m1 us vs m2 us' vs' (addT m1 us vs m2 us' vs') (nv vs * nv vs') = none := by
    unfold arF
    rw [hr1, hr2, hT, hD]
    exact makF_same17 (Nat.mul_pos (den_pos hq1.1) (den_pos hq2.1)) k1 k2 (bothQ_fits17 hP).2.1 (bothQ_fits17 hP).2.2
  have hc := r8add_any m1 m2 _ _ _ _ _ _ _ _ _ _ _ _ us vs us' vs' w n1 n2 n3 n4
  rw [hf, hT, hD, k1, k2] at hc
  refine hc.mono ?_
  intro e w' hh
  exact FT17.ok (P := True) ⟨fun _ => hh, fun e => absurd trivial e⟩ trivial
set_option maxRecDepth 20000 in
theorem sub17_any {l G H A B : Int} (hP : GainArg l G H A B) {w : World} {m1 m2 : Bool} {p1 p2 p3 p4 : Option Addr} {l1 c1 l2 c2 l3 c3 l4 c4 : Nat} (h1 : FrAt17 w m1 p1 l1 c1 p2 l2 c2 (bothQ l G H A B)) (h2 : FrAt17 w m2 p3 l3 c3 p4 l4 c4 (scoreQ l A B)) :
    Calls Tryz.prog 21 #[.agg #[.bool m1, .slice p1 l1 c1, .slice p2 l2 c2], .agg #[.bool m2, .slice p3 l3 c3, .slice p4 l4 c4]] w fun e w' => ∃ m p k n p' k' n', e = .returned (.tuple #[.agg #[.bool m, .slice p k n, .slice p' k' n'], .int .i64 0]) ∧ FrAt17 w' m p k n p' k' n' (gainQ l G H A B) ∧ Below w.heap.size w w' := by
  obtain ⟨us, vs, n1, n2, hW, hN⟩ := h1
  obtain ⟨us', vs', n3, n4, hW', hN'⟩ := h2
  obtain ⟨a1, a2, a3⟩ := gain_args17 hP
  have hq1 := (bothQ_fits17 hP)
  have hq2 := (show _ ∧ _ ∧ _ from ⟨(scoreQ_pos a3).1, score_fits17 a3⟩)
  have hr1 := right_low17 hq1.1 hq1.2.1 hq1.2.2 hW hN
  have hr2 := right_low17 hq2.1 hq2.2.1 hq2.2.2 hW' hN'
  have hT : subT m1 us vs m2 us' vs' = numF (bothQ l G H A B).1 (bothQ l G H A B).2 * (denF (scoreQ l A B).1 (scoreQ l A B).2 : Int) - numF (scoreQ l A B).1 (scoreQ l A B).2 * (denF (bothQ l G H A B).1 (bothQ l G H A B).2 : Int) := by
    unfold subT
    rw [hW.2.2, hW'.2.2, hN.nv, hN'.nv]
  have hD : nv vs * nv vs' = denF (bothQ l G H A B).1 (bothQ l G H A B).2 * denF (scoreQ l A B).1 (scoreQ l A B).2 := by rw [hN.nv, hN'.nv]
  obtain ⟨k1, k2⟩ := sub_scores17 hP
  have hf : arF m1 us vs m2 us' vs' (subT m1 us vs m2 us' vs') (nv vs * nv vs') = none := by
    unfold arF
    rw [hr1, hr2, hT, hD]
    exact makF_same17 (Nat.mul_pos (den_pos hq1.1) (den_pos hq2.1)) k1 k2 (gainQ_fits17 hP).2.1 (gainQ_fits17 hP).2.2
  have hc := r8sub_any m1 m2 _ _ _ _ _ _ _ _ _ _ _ _ us vs us' vs' w n1 n2 n3 n4
  rw [hf, hT, hD, k1, k2] at hc
  refine hc.mono ?_
  intro e w' hh
  exact FT17.ok (P := True) ⟨fun _ => hh, fun e => absurd trivial e⟩ trivial
end Go.Proofs.YtchmlfjjgehbkaaGreat

namespace Go.Proofs.YtchmlfjjgehbkaaGreat
open Go.RowKit

set_option maxRecDepth 100000 in
set_option maxHeartbeats 12800000 in
theorem gx_p0 {x0 x3 x4 x5 x6 x7 x8 x9 x10 x11 x12 x13 x14 x15 x16 x17 x18 x19 x20 x21 x22 x23 x24 x25 x26 x27 x28 x29 x30 x31 x32 x33 x34 x35 x36 x37 x38 x39 x40 x41 x42 x43 x44 x45 x46 x47 x48 x49 x50 x51 x52 x53 x54 x55 x56 x57 x58 x59 x60 x61 x62 x63 : Value} {Q : Exit → Act → World → Prop} {W : World} {G H A B : Int} 
    (hN : Q .normal ⟨#[x0, .agg #[.int .i64 G, .int .i64 H], .agg #[.int .i64 A, .int .i64 B], x3, .pointer (some ⟨W.heap.size, 0, none⟩), .pointer (some ⟨(W.heap.size + 1), 0, none⟩), .pointer (some ⟨(W.heap.size + 1 + 1), 0, none⟩), .int .i64 0, x8, x9, x10, x11, x12, x13, x14, x15, x16, x17, x18, x19, x20, x21, x22, x23, x24, x25, x26, x27, x28, x29, x30, x31, x32, x33, x34, x35, x36, x37, x38, x39, x40, x41, x42, x43, x44, x45, x46, x47, x48, x49, x50, x51, x52, x53, x54, x55, x56, x57, x58, x59, x60, x61, x62, x63], []⟩ (((W.alloc (.cells #[.int .i64 G, .int .i64 H] 23)).alloc (.cells #[.int .i64 A, .int .i64 B] 23)).alloc (.cells #[.bool false, .slice none 0 0, .slice none 0 0] 30))) :
    Code.wp Tryz.prog ((Tryz.f7.body.bind (pcAt 0)).getD .skip) Q ⟨#[x0, .agg #[.int .i64 G, .int .i64 H], .agg #[.int .i64 A, .int .i64 B], x3, x4, x5, x6, x7, x8, x9, x10, x11, x12, x13, x14, x15, x16, x17, x18, x19, x20, x21, x22, x23, x24, x25, x26, x27, x28, x29, x30, x31, x32, x33, x34, x35, x36, x37, x38, x39, x40, x41, x42, x43, x44, x45, x46, x47, x48, x49, x50, x51, x52, x53, x54, x55, x56, x57, x58, x59, x60, x61, x62, x63], []⟩ W := by
  conv => arg 2; whnf
  have HN : Hid (Q .normal ⟨#[x0, .agg #[.int .i64 G, .int .i64 H], .agg #[.int .i64 A, .int .i64 B], x3, .pointer (some ⟨W.heap.size, 0, none⟩), .pointer (some ⟨(W.heap.size + 1), 0, none⟩), .pointer (some ⟨(W.heap.size + 1 + 1), 0, none⟩), .int .i64 0, x8, x9, x10, x11, x12, x13, x14, x15, x16, x17, x18, x19, x20, x21, x22, x23, x24, x25, x26, x27, x28, x29, x30, x31, x32, x33, x34, x35, x36, x37, x38, x39, x40, x41, x42, x43, x44, x45, x46, x47, x48, x49, x50, x51, x52, x53, x54, x55, x56, x57, x58, x59, x60, x61, x62, x63], []⟩ (((W.alloc (.cells #[.int .i64 G, .int .i64 H] 23)).alloc (.cells #[.int .i64 A, .int .i64 B] 23)).alloc (.cells #[.bool false, .slice none 0 0, .slice none 0 0] 30))) := hN
  clear hN
  go_wp2_with fail
  exact HN.out   

set_option maxRecDepth 100000 in
set_option maxHeartbeats 12800000 in
theorem gx_p1 {x0 x1 x2 x3 x6 x7 x8 x9 x10 x11 x12 x13 x14 x15 x16 x17 x18 x19 x20 x21 x22 x23 x24 x25 x26 x27 x28 x29 x30 x31 x32 x33 x34 x35 x36 x37 x38 x39 x40 x41 x42 x43 x44 x45 x46 x47 x48 x49 x50 x51 x52 x53 x54 x55 x56 x57 x58 x59 x60 x61 x62 x63 : Value} {Q : Exit → Act → World → Prop} {W : World} {g1 g2 : Nat} {G H A B : Int} (h1 : SVar W g1 G H) (h2 : SVar W g2 A B)
    (hN : ∀ (X Y : Int) (b : Bool) (s : Nat) (wx : World) (y18 y19 y20 y21 y22 y23 : Value), (b = true ↔ SumOk G H ∧ SumOk A B ∧ SumOk (A - G) (B - H)) → (b = true → X = A - G ∧ Y = B - H) → SVar wx s X Y → W.heap.size ≤ s → Below W.heap.size W wx → Q .normal ⟨#[x0, x1, x2, x3, .pointer (some ⟨g1, 0, none⟩), .pointer (some ⟨g2, 0, none⟩), x6, x7, .pointer (some ⟨s, 0, none⟩), .bool b, x10, x11, x12, x13, x14, x15, x16, x17, y18, y19, y20, y21, y22, y23, x24, x25, x26, x27, x28, x29, x30, x31, x32, x33, x34, x35, x36, x37, x38, x39, x40, x41, x42, x43, x44, x45, x46, x47, x48, x49, x50, x51, x52, x53, x54, x55, x56, x57, x58, x59, x60, x61, x62, x63], []⟩ wx) :
    Code.wp Tryz.prog ((Tryz.f7.body.bind (pcAt 1)).getD .skip) Q ⟨#[x0, x1, x2, x3, .pointer (some ⟨g1, 0, none⟩), .pointer (some ⟨g2, 0, none⟩), x6, x7, x8, x9, x10, x11, x12, x13, x14, x15, x16, x17, x18, x19, x20, x21, x22, x23, x24, x25, x26, x27, x28, x29, x30, x31, x32, x33, x34, x35, x36, x37, x38, x39, x40, x41, x42, x43, x44, x45, x46, x47, x48, x49, x50, x51, x52, x53, x54, x55, x56, x57, x58, x59, x60, x61, x62, x63], []⟩ W := by
  conv => arg 2; whnf
  have HN : Hid (∀ (X Y : Int) (b : Bool) (s : Nat) (wx : World) (y18 y19 y20 y21 y22 y23 : Value), (b = true ↔ SumOk G H ∧ SumOk A B ∧ SumOk (A - G) (B - H)) → (b = true → X = A - G ∧ Y = B - H) → SVar wx s X Y → W.heap.size ≤ s → Below W.heap.size W wx → Q .normal ⟨#[x0, x1, x2, x3, .pointer (some ⟨g1, 0, none⟩), .pointer (some ⟨g2, 0, none⟩), x6, x7, .pointer (some ⟨s, 0, none⟩), .bool b, x10, x11, x12, x13, x14, x15, x16, x17, y18, y19, y20, y21, y22, y23, x24, x25, x26, x27, x28, x29, x30, x31, x32, x33, x34, x35, x36, x37, x38, x39, x40, x41, x42, x43, x44, x45, x46, x47, x48, x49, x50, x51, x52, x53, x54, x55, x56, x57, x58, x59, x60, x61, x62, x63], []⟩ wx) := hN
  clear hN
  obtain ⟨x0, x1⟩ := h1.cell
  obtain ⟨y0, y1⟩ := h2.cell
  have HC := (show Hid _ from r17right_any G H A B W)
  clear h1 h2
  go_wp2_with fail
  refine Calls.mono HC.out ?_
  rintro e w1 ⟨X, Y, b, rfl, hz, hxy, hb1⟩
  have HK : Hid ((b = true ↔ SumOk G H ∧ SumOk A B ∧ SumOk (A - G) (B - H)) ∧ (b = true → X = A - G ∧ Y = B - H) ∧ SVar (w1.alloc (.cells #[.int .i64 X, .int .i64 Y] 23)) w1.heap.size X Y ∧ W.heap.size ≤ w1.heap.size ∧ Below W.heap.size W (w1.alloc (.cells #[.int .i64 X, .int .i64 Y] 23))) := ⟨hz, hxy, heap_alloc_new w1 _, hb1.size, bthen hb1 (balloc _ _)⟩
  clear HC hz hxy hb1 x0 x1 y0 y1
  go_wp2_with fail
  exact HN.out _ _ _ _ _ _ _ _ _ _ _ HK.out.1 HK.out.2.1 HK.out.2.2.1 HK.out.2.2.2.1 HK.out.2.2.2.2

set_option maxRecDepth 100000 in
set_option maxHeartbeats 12800000 in
theorem gx_p2 {x1 x2 x3 x4 x5 x7 x8 x10 x11 x12 x13 x14 x15 x16 x17 x18 x19 x20 x21 x22 x23 x24 x25 x26 x27 x28 x29 x30 x31 x32 x33 x34 x35 x36 x37 x38 x39 x40 x41 x42 x43 x44 x45 x46 x47 x48 x49 x50 x51 x52 x53 x54 x55 x56 x57 x58 x59 x60 x61 x62 x63 : Value} {Q : Exit → Act → World → Prop} {W : World} {R : Nat} {l : Int} {b : Bool} (hr : Cell3 W R false none 0 0 none 0 0)
    (hN : ∀ (y7 y24 y25 y26 y27 y28 y29 y30 y31 y32 y33 y34 : Value), b = true → LamOk l → Q .normal ⟨#[.int .i64 l, x1, x2, x3, x4, x5, .pointer (some ⟨R, 0, none⟩), y7, x8, .bool b, x10, x11, x12, x13, x14, x15, x16, x17, x18, x19, x20, x21, x22, x23, y24, y25, y26, y27, y28, y29, y30, y31, y32, y33, y34, x35, x36, x37, x38, x39, x40, x41, x42, x43, x44, x45, x46, x47, x48, x49, x50, x51, x52, x53, x54, x55, x56, x57, x58, x59, x60, x61, x62, x63], []⟩ W)
    (hR : ∀ (y24 y25 y26 y27 y28 y29 y30 y31 y32 y33 y34 : Value), ¬ (b = true ∧ LamOk l) → Q .ret ⟨#[.int .i64 l, x1, x2, x3, x4, x5, .pointer (some ⟨R, 0, none⟩), .int .i64 1, x8, .bool b, x10, x11, x12, x13, x14, x15, x16, x17, x18, x19, x20, x21, x22, x23, y24, y25, y26, y27, y28, y29, y30, y31, y32, y33, y34, x35, x36, x37, x38, x39, x40, x41, x42, x43, x44, x45, x46, x47, x48, x49, x50, x51, x52, x53, x54, x55, x56, x57, x58, x59, x60, x61, x62, x63], []⟩ (((W.setCell ⟨R, 0, none⟩ (.bool false)).setCell ⟨R, 1, none⟩ (.slice none 0 0)).setCell ⟨R, 2, none⟩ (.slice none 0 0))) :
    Code.wp Tryz.prog ((Tryz.f7.body.bind (pcAt 2)).getD .skip) Q ⟨#[.int .i64 l, x1, x2, x3, x4, x5, .pointer (some ⟨R, 0, none⟩), x7, x8, .bool b, x10, x11, x12, x13, x14, x15, x16, x17, x18, x19, x20, x21, x22, x23, x24, x25, x26, x27, x28, x29, x30, x31, x32, x33, x34, x35, x36, x37, x38, x39, x40, x41, x42, x43, x44, x45, x46, x47, x48, x49, x50, x51, x52, x53, x54, x55, x56, x57, x58, x59, x60, x61, x62, x63], []⟩ W := by
  conv => arg 2; whnf
  have HN : Hid (∀ (y7 y24 y25 y26 y27 y28 y29 y30 y31 y32 y33 y34 : Value), b = true → LamOk l → Q .normal ⟨#[.int .i64 l, x1, x2, x3, x4, x5, .pointer (some ⟨R, 0, none⟩), y7, x8, .bool b, x10, x11, x12, x13, x14, x15, x16, x17, x18, x19, x20, x21, x22, x23, y24, y25, y26, y27, y28, y29, y30, y31, y32, y33, y34, x35, x36, x37, x38, x39, x40, x41, x42, x43, x44, x45, x46, x47, x48, x49, x50, x51, x52, x53, x54, x55, x56, x57, x58, x59, x60, x61, x62, x63], []⟩ W) := hN
  have HR : Hid (∀ (y24 y25 y26 y27 y28 y29 y30 y31 y32 y33 y34 : Value), ¬ (b = true ∧ LamOk l) → Q .ret ⟨#[.int .i64 l, x1, x2, x3, x4, x5, .pointer (some ⟨R, 0, none⟩), .int .i64 1, x8, .bool b, x10, x11, x12, x13, x14, x15, x16, x17, x18, x19, x20, x21, x22, x23, y24, y25, y26, y27, y28, y29, y30, y31, y32, y33, y34, x35, x36, x37, x38, x39, x40, x41, x42, x43, x44, x45, x46, x47, x48, x49, x50, x51, x52, x53, x54, x55, x56, x57, x58, x59, x60, x61, x62, x63], []⟩ (((W.setCell ⟨R, 0, none⟩ (.bool false)).setCell ⟨R, 1, none⟩ (.slice none 0 0)).setCell ⟨R, 2, none⟩ (.slice none 0 0))) := hR
  clear hN hR
  obtain ⟨r0, r1, r2, f0, f1, f2⟩ := hr
  cases b with
  | false =>
    clear HN
    go_wp2_with fail
    exact HR.out  _ _ _ _ _ _ _ _ _ _ _ (fun e => by cases e.1)
  | true =>
    by_cases q1 : l < 1
    · have d1 : decide (l < 1) = true := decide_eq_true q1
      have HX : Hid (¬ (True ∧ LamOk l)) := fun e => by have := e.2.1; omega
      clear HN q1
      go_wp2_with fail
      exact HR.out  _ _ _ _ _ _ _ _ _ _ _ (fun e => HX.out ⟨trivial, e.2⟩)
    have d1 : decide (l < 1) = false := decide_eq_false q1
    by_cases q2 : 1048576 < l
    · have d2 : decide (1048576 < l) = true := decide_eq_true q2
      have HX : Hid (¬ (True ∧ LamOk l)) := fun e => by have := e.2.2; omega
      clear HN q1 q2
      go_wp2_with fail
      exact HR.out  _ _ _ _ _ _ _ _ _ _ _ (fun e => HX.out ⟨trivial, e.2⟩)
    have d2 : decide (1048576 < l) = false := decide_eq_false q2
    have HX : Hid (LamOk l) := ⟨by omega, by omega⟩
    clear HR q1 q2
    go_wp2_with fail
    exact HN.out  _ _ _ _ _ _ _ _ _ _ _ _ (by trivial) HX.out

set_option maxRecDepth 100000 in
set_option maxHeartbeats 12800000 in
theorem gx_p4 {x1 x2 x3 x5 x6 x7 x8 x9 x10 x11 x12 x13 x14 x15 x16 x17 x18 x19 x20 x21 x22 x23 x24 x25 x26 x27 x28 x29 x30 x31 x32 x33 x34 x35 x36 x37 x38 x39 x40 x41 x42 x43 x44 x45 x46 x47 x48 x49 x50 x51 x52 x53 x54 x55 x56 x57 x58 x59 x60 x61 x62 x63 : Value} {Q : Exit → Act → World → Prop} {W : World} {g : Nat} {l G H : Int} (hg : SVar W g G H) (hP : ScoreArg l G H) (hl : -9223372036854775808 ≤ l ∧ l < 9223372036854775808)
    (hN : ∀ (m : Bool) (p : Option Addr) (k n : Nat) (p' : Option Addr) (k' n' : Nat) (s : Nat) (wx : World) (y11 y35 y36 y37 y38 y39 y40 : Value), Cell3 wx s m p k n p' k' n' → FrAt17 wx m p k n p' k' n' (scoreQ l G H) → W.heap.size ≤ s → Below W.heap.size W wx → Q .normal ⟨#[.int .i64 l, x1, x2, x3, .pointer (some ⟨g, 0, none⟩), x5, x6, x7, x8, x9, .pointer (some ⟨s, 0, none⟩), y11, x12, x13, x14, x15, x16, x17, x18, x19, x20, x21, x22, x23, x24, x25, x26, x27, x28, x29, x30, x31, x32, x33, x34, y35, y36, y37, y38, y39, y40, x41, x42, x43, x44, x45, x46, x47, x48, x49, x50, x51, x52, x53, x54, x55, x56, x57, x58, x59, x60, x61, x62, x63], []⟩ wx) :
    Code.wp Tryz.prog ((Tryz.f7.body.bind (pcAt 4)).getD .skip) Q ⟨#[.int .i64 l, x1, x2, x3, .pointer (some ⟨g, 0, none⟩), x5, x6, x7, x8, x9, x10, x11, x12, x13, x14, x15, x16, x17, x18, x19, x20, x21, x22, x23, x24, x25, x26, x27, x28, x29, x30, x31, x32, x33, x34, x35, x36, x37, x38, x39, x40, x41, x42, x43, x44, x45, x46, x47, x48, x49, x50, x51, x52, x53, x54, x55, x56, x57, x58, x59, x60, x61, x62, x63], []⟩ W := by
  conv => arg 2; whnf
  have HN : Hid (∀ (m : Bool) (p : Option Addr) (k n : Nat) (p' : Option Addr) (k' n' : Nat) (s : Nat) (wx : World) (y11 y35 y36 y37 y38 y39 y40 : Value), Cell3 wx s m p k n p' k' n' → FrAt17 wx m p k n p' k' n' (scoreQ l G H) → W.heap.size ≤ s → Below W.heap.size W wx → Q .normal ⟨#[.int .i64 l, x1, x2, x3, .pointer (some ⟨g, 0, none⟩), x5, x6, x7, x8, x9, .pointer (some ⟨s, 0, none⟩), y11, x12, x13, x14, x15, x16, x17, x18, x19, x20, x21, x22, x23, x24, x25, x26, x27, x28, x29, x30, x31, x32, x33, x34, y35, y36, y37, y38, y39, y40, x41, x42, x43, x44, x45, x46, x47, x48, x49, x50, x51, x52, x53, x54, x55, x56, x57, x58, x59, x60, x61, x62, x63], []⟩ wx) := hN
  clear hN
  obtain ⟨x0, x1⟩ := hg.cell
  have HC := (show Hid _ from r17score_any l G H W hl)
  have HP : Hid (ScoreArg l G H) := hP
  clear hg hP hl
  go_wp2_with fail
  refine Calls.mono HC.out ?_
  rintro e w1 hh
  obtain ⟨m, p, k, n, p', k', n', rfl, hF, hb⟩ := hh.ok HP.out
  have HK : Hid (Cell3 (w1.alloc (.cells #[.bool m, .slice p k n, .slice p' k' n'] 30)) w1.heap.size m p k n p' k' n' ∧ FrAt17 (w1.alloc (.cells #[.bool m, .slice p k n, .slice p' k' n'] 30)) m p k n p' k' n' (scoreQ l G H) ∧ W.heap.size ≤ w1.heap.size ∧ Below W.heap.size W (w1.alloc (.cells #[.bool m, .slice p k n, .slice p' k' n'] 30))) := ⟨Cell3.new w1 m p p' k n k' n', hF.below (balloc _ _), hb.size, bthen hb (balloc _ _)⟩
  clear HC HP hh hF hb x0 x1
  go_wp2_with fail
  exact HN.out _ _ _ _ _ _ _ _ _ _ _ _ _ _ _ _ HK.out.1 HK.out.2.1 HK.out.2.2.1 HK.out.2.2.2

set_option maxRecDepth 100000 in
set_option maxHeartbeats 12800000 in
theorem gx_p5 {x1 x2 x3 x4 x5 x6 x7 x9 x10 x11 x12 x13 x14 x15 x16 x17 x18 x19 x20 x21 x22 x23 x24 x25 x26 x27 x28 x29 x30 x31 x32 x33 x34 x35 x36 x37 x38 x39 x40 x41 x42 x43 x44 x45 x46 x47 x48 x49 x50 x51 x52 x53 x54 x55 x56 x57 x58 x59 x60 x61 x62 x63 : Value} {Q : Exit → Act → World → Prop} {W : World} {g : Nat} {l G H : Int} (hg : SVar W g G H) (hP : ScoreArg l G H) (hl : -9223372036854775808 ≤ l ∧ l < 9223372036854775808)
    (hN : ∀ (m : Bool) (p : Option Addr) (k n : Nat) (p' : Option Addr) (k' n' : Nat) (s : Nat) (wx : World) (y13 y41 y42 y43 y44 y45 y46 : Value), Cell3 wx s m p k n p' k' n' → FrAt17 wx m p k n p' k' n' (scoreQ l G H) → W.heap.size ≤ s → Below W.heap.size W wx → Q .normal ⟨#[.int .i64 l, x1, x2, x3, x4, x5, x6, x7, .pointer (some ⟨g, 0, none⟩), x9, x10, x11, .pointer (some ⟨s, 0, none⟩), y13, x14, x15, x16, x17, x18, x19, x20, x21, x22, x23, x24, x25, x26, x27, x28, x29, x30, x31, x32, x33, x34, x35, x36, x37, x38, x39, x40, y41, y42, y43, y44, y45, y46, x47, x48, x49, x50, x51, x52, x53, x54, x55, x56, x57, x58, x59, x60, x61, x62, x63], []⟩ wx) :
    Code.wp Tryz.prog ((Tryz.f7.body.bind (pcAt 5)).getD .skip) Q ⟨#[.int .i64 l, x1, x2, x3, x4, x5, x6, x7, .pointer (some ⟨g, 0, none⟩), x9, x10, x11, x12, x13, x14, x15, x16, x17, x18, x19, x20, x21, x22, x23, x24, x25, x26, x27, x28, x29, x30, x31, x32, x33, x34, x35, x36, x37, x38, x39, x40, x41, x42, x43, x44, x45, x46, x47, x48, x49, x50, x51, x52, x53, x54, x55, x56, x57, x58, x59, x60, x61, x62, x63], []⟩ W := by
  conv => arg 2; whnf
  have HN : Hid (∀ (m : Bool) (p : Option Addr) (k n : Nat) (p' : Option Addr) (k' n' : Nat) (s : Nat) (wx : World) (y13 y41 y42 y43 y44 y45 y46 : Value), Cell3 wx s m p k n p' k' n' → FrAt17 wx m p k n p' k' n' (scoreQ l G H) → W.heap.size ≤ s → Below W.heap.size W wx → Q .normal ⟨#[.int .i64 l, x1, x2, x3, x4, x5, x6, x7, .pointer (some ⟨g, 0, none⟩), x9, x10, x11, .pointer (some ⟨s, 0, none⟩), y13, x14, x15, x16, x17, x18, x19, x20, x21, x22, x23, x24, x25, x26, x27, x28, x29, x30, x31, x32, x33, x34, x35, x36, x37, x38, x39, x40, y41, y42, y43, y44, y45, y46, x47, x48, x49, x50, x51, x52, x53, x54, x55, x56, x57, x58, x59, x60, x61, x62, x63], []⟩ wx) := hN
  clear hN
  obtain ⟨x0, x1⟩ := hg.cell
  have HC := (show Hid _ from r17score_any l G H W hl)
  have HP : Hid (ScoreArg l G H) := hP
  clear hg hP hl
  go_wp2_with fail
  refine Calls.mono HC.out ?_
  rintro e w1 hh
  obtain ⟨m, p, k, n, p', k', n', rfl, hF, hb⟩ := hh.ok HP.out
  have HK : Hid (Cell3 (w1.alloc (.cells #[.bool m, .slice p k n, .slice p' k' n'] 30)) w1.heap.size m p k n p' k' n' ∧ FrAt17 (w1.alloc (.cells #[.bool m, .slice p k n, .slice p' k' n'] 30)) m p k n p' k' n' (scoreQ l G H) ∧ W.heap.size ≤ w1.heap.size ∧ Below W.heap.size W (w1.alloc (.cells #[.bool m, .slice p k n, .slice p' k' n'] 30))) := ⟨Cell3.new w1 m p p' k n k' n', hF.below (balloc _ _), hb.size, bthen hb (balloc _ _)⟩
  clear HC HP hh hF hb x0 x1
  go_wp2_with fail
  exact HN.out _ _ _ _ _ _ _ _ _ _ _ _ _ _ _ _ HK.out.1 HK.out.2.1 HK.out.2.2.1 HK.out.2.2.2

set_option maxRecDepth 100000 in
set_option maxHeartbeats 12800000 in
theorem gx_p6 {x1 x2 x3 x4 x6 x7 x8 x9 x10 x11 x12 x13 x14 x15 x16 x17 x18 x19 x20 x21 x22 x23 x24 x25 x26 x27 x28 x29 x30 x31 x32 x33 x34 x35 x36 x37 x38 x39 x40 x41 x42 x43 x44 x45 x46 x47 x48 x49 x50 x51 x52 x53 x54 x55 x56 x57 x58 x59 x60 x61 x62 x63 : Value} {Q : Exit → Act → World → Prop} {W : World} {g : Nat} {l G H : Int} (hg : SVar W g G H) (hP : ScoreArg l G H) (hl : -9223372036854775808 ≤ l ∧ l < 9223372036854775808)
    (hN : ∀ (m : Bool) (p : Option Addr) (k n : Nat) (p' : Option Addr) (k' n' : Nat) (s : Nat) (wx : World) (y15 y47 y48 y49 y50 y51 y52 : Value), Cell3 wx s m p k n p' k' n' → FrAt17 wx m p k n p' k' n' (scoreQ l G H) → W.heap.size ≤ s → Below W.heap.size W wx → Q .normal ⟨#[.int .i64 l, x1, x2, x3, x4, .pointer (some ⟨g, 0, none⟩), x6, x7, x8, x9, x10, x11, x12, x13, .pointer (some ⟨s, 0, none⟩), y15, x16, x17, x18, x19, x20, x21, x22, x23, x24, x25, x26, x27, x28, x29, x30, x31, x32, x33, x34, x35, x36, x37, x38, x39, x40, x41, x42, x43, x44, x45, x46, y47, y48, y49, y50, y51, y52, x53, x54, x55, x56, x57, x58, x59, x60, x61, x62, x63], []⟩ wx) :
    Code.wp Tryz.prog ((Tryz.f7.body.bind (pcAt 6)).getD .skip) Q ⟨#[.int .i64 l, x1, x2, x3, x4, .pointer (some ⟨g, 0, none⟩), x6, x7, x8, x9, x10, x11, x12, x13, x14, x15, x16, x17, x18, x19, x20, x21, x22, x23, x24, x25, x26, x27, x28, x29, x30, x31, x32, x33, x34, x35, x36, x37, x38, x39, x40, x41, x42, x43, x44, x45, x46, x47, x48, x49, x50, x51, x52, x53, x54, x55, x56, x57, x58, x59, x60, x61, x62, x63], []⟩ W := by
  conv => arg 2; whnf
  have HN : Hid (∀ (m : Bool) (p : Option Addr) (k n : Nat) (p' : Option Addr) (k' n' : Nat) (s : Nat) (wx : World) (y15 y47 y48 y49 y50 y51 y52 : Value), Cell3 wx s m p k n p' k' n' → FrAt17 wx m p k n p' k' n' (scoreQ l G H) → W.heap.size ≤ s → Below W.heap.size W wx → Q .normal ⟨#[.int .i64 l, x1, x2, x3, x4, .pointer (some ⟨g, 0, none⟩), x6, x7, x8, x9, x10, x11, x12, x13, .pointer (some ⟨s, 0, none⟩), y15, x16, x17, x18, x19, x20, x21, x22, x23, x24, x25, x26, x27, x28, x29, x30, x31, x32, x33, x34, x35, x36, x37, x38, x39, x40, x41, x42, x43, x44, x45, x46, y47, y48, y49, y50, y51, y52, x53, x54, x55, x56, x57, x58, x59, x60, x61, x62, x63], []⟩ wx) := hN
  clear hN
  obtain ⟨x0, x1⟩ := hg.cell
  have HC := (show Hid _ from r17score_any l G H W hl)
  have HP : Hid (ScoreArg l G H) := hP
  clear hg hP hl
  go_wp2_with fail
  refine Calls.mono HC.out ?_
  rintro e w1 hh
  obtain ⟨m, p, k, n, p', k', n', rfl, hF, hb⟩ := hh.ok HP.out
  have HK : Hid (Cell3 (w1.alloc (.cells #[.bool m, .slice p k n, .slice p' k' n'] 30)) w1.heap.size m p k n p' k' n' ∧ FrAt17 (w1.alloc (.cells #[.bool m, .slice p k n, .slice p' k' n'] 30)) m p k n p' k' n' (scoreQ l G H) ∧ W.heap.size ≤ w1.heap.size ∧ Below W.heap.size W (w1.alloc (.cells #[.bool m, .slice p k n, .slice p' k' n'] 30))) := ⟨Cell3.new w1 m p p' k n k' n', hF.below (balloc _ _), hb.size, bthen hb (balloc _ _)⟩
  clear HC HP hh hF hb x0 x1
  go_wp2_with fail
  exact HN.out _ _ _ _ _ _ _ _ _ _ _ _ _ _ _ _ HK.out.1 HK.out.2.1 HK.out.2.2.1 HK.out.2.2.2

set_option maxRecDepth 100000 in
set_option maxHeartbeats 12800000 in
theorem gx_p7 {x0 x1 x2 x3 x4 x5 x6 x7 x8 x9 x11 x13 x14 x15 x16 x17 x18 x19 x20 x21 x22 x23 x24 x25 x26 x27 x28 x29 x30 x31 x32 x33 x34 x35 x36 x37 x38 x39 x40 x41 x42 x43 x44 x45 x46 x47 x48 x49 x50 x51 x52 x53 x54 x55 x56 x57 x58 x59 x60 x61 x62 x63 : Value} {Q : Exit → Act → World → Prop} {W : World} {s1 s2 : Nat} {l G H A B : Int} {m1 m2 : Bool} {a1 b1 a2 b2 : Option Addr} {k1 n1 k2 n2 k3 n3 k4 n4 : Nat} (h1 : Cell3 W s1 m1 a1 k1 n1 b1 k2 n2) (f1 : FrAt17 W m1 a1 k1 n1 b1 k2 n2 (scoreQ l G H)) (h2 : Cell3 W s2 m2 a2 k3 n3 b2 k4 n4) (f2 : FrAt17 W m2 a2 k3 n3 b2 k4 n4 (scoreQ l (A - G) (B - H))) (hP : GainArg l G H A B)
    (hN : ∀ (m : Bool) (p : Option Addr) (k n : Nat) (p' : Option Addr) (k' n' : Nat) (s : Nat) (wx : World) (y17 y53 y54 y55 y56 y57 y58 : Value), Cell3 wx s m p k n p' k' n' → FrAt17 wx m p k n p' k' n' (bothQ l G H A B) → W.heap.size ≤ s → Below W.heap.size W wx → Q .normal ⟨#[x0, x1, x2, x3, x4, x5, x6, x7, x8, x9, .pointer (some ⟨s1, 0, none⟩), x11, .pointer (some ⟨s2, 0, none⟩), x13, x14, x15, .pointer (some ⟨s, 0, none⟩), y17, x18, x19, x20, x21, x22, x23, x24, x25, x26, x27, x28, x29, x30, x31, x32, x33, x34, x35, x36, x37, x38, x39, x40, x41, x42, x43, x44, x45, x46, x47, x48, x49, x50, x51, x52, y53, y54, y55, y56, y57, y58, x59, x60, x61, x62, x63], []⟩ wx) :
    Code.wp Tryz.prog ((Tryz.f7.body.bind (pcAt 7)).getD .skip) Q ⟨#[x0, x1, x2, x3, x4, x5, x6, x7, x8, x9, .pointer (some ⟨s1, 0, none⟩), x11, .pointer (some ⟨s2, 0, none⟩), x13, x14, x15, x16, x17, x18, x19, x20, x21, x22, x23, x24, x25, x26, x27, x28, x29, x30, x31, x32, x33, x34, x35, x36, x37, x38, x39, x40, x41, x42, x43, x44, x45, x46, x47, x48, x49, x50, x51, x52, x53, x54, x55, x56, x57, x58, x59, x60, x61, x62, x63], []⟩ W := by
  conv => arg 2; whnf
  have HN : Hid (∀ (m : Bool) (p : Option Addr) (k n : Nat) (p' : Option Addr) (k' n' : Nat) (s : Nat) (wx : World) (y17 y53 y54 y55 y56 y57 y58 : Value), Cell3 wx s m p k n p' k' n' → FrAt17 wx m p k n p' k' n' (bothQ l G H A B) → W.heap.size ≤ s → Below W.heap.size W wx → Q .normal ⟨#[x0, x1, x2, x3, x4, x5, x6, x7, x8, x9, .pointer (some ⟨s1, 0, none⟩), x11, .pointer (some ⟨s2, 0, none⟩), x13, x14, x15, .pointer (some ⟨s, 0, none⟩), y17, x18, x19, x20, x21, x22, x23, x24, x25, x26, x27, x28, x29, x30, x31, x32, x33, x34, x35, x36, x37, x38, x39, x40, x41, x42, x43, x44, x45, x46, x47, x48, x49, x50, x51, x52, y53, y54, y55, y56, y57, y58, x59, x60, x61, x62, x63], []⟩ wx) := hN
  clear hN
  obtain ⟨x0, x1, x2, -, -, -⟩ := h1
  obtain ⟨y0, y1, y2, -, -, -⟩ := h2
  have HC := (show Hid _ from add17_any hP f1 f2)
  clear f1 f2 hP
  go_wp2_with fail
  refine Calls.mono HC.out ?_
  rintro e w1 ⟨m, p, k, n, p', k', n', rfl, hF, hb⟩
  have HK : Hid (Cell3 (w1.alloc (.cells #[.bool m, .slice p k n, .slice p' k' n'] 30)) w1.heap.size m p k n p' k' n' ∧ FrAt17 (w1.alloc (.cells #[.bool m, .slice p k n, .slice p' k' n'] 30)) m p k n p' k' n' (bothQ l G H A B) ∧ W.heap.size ≤ w1.heap.size ∧ Below W.heap.size W (w1.alloc (.cells #[.bool m, .slice p k n, .slice p' k' n'] 30))) := ⟨Cell3.new w1 m p p' k n k' n', hF.below (balloc _ _), hb.size, bthen hb (balloc _ _)⟩
  clear HC hF hb x0 x1 x2 y0 y1 y2
  go_wp2_with fail
  exact HN.out _ _ _ _ _ _ _ _ _ _ _ _ _ _ _ _ HK.out.1 HK.out.2.1 HK.out.2.2.1 HK.out.2.2.2

set_option maxRecDepth 100000 in
set_option maxHeartbeats 12800000 in
theorem gx_p8 {x0 x1 x2 x3 x4 x5 x7 x8 x9 x10 x11 x12 x13 x15 x17 x18 x19 x20 x21 x22 x23 x24 x25 x26 x27 x28 x29 x30 x31 x32 x33 x34 x35 x36 x37 x38 x39 x40 x41 x42 x43 x44 x45 x46 x47 x48 x49 x50 x51 x52 x53 x54 x55 x56 x57 x58 x59 x60 x61 x62 x63 : Value} {Q : Exit → Act → World → Prop} {W : World} {R s1 s2 : Nat} {l G H A B : Int} {m1 m2 : Bool} {a1 b1 a2 b2 : Option Addr} {k1 n1 k2 n2 k3 n3 k4 n4 : Nat} (hr : Cell3 W R false none 0 0 none 0 0) (h1 : Cell3 W s1 m1 a1 k1 n1 b1 k2 n2) (f1 : FrAt17 W m1 a1 k1 n1 b1 k2 n2 (bothQ l G H A B)) (h2 : Cell3 W s2 m2 a2 k3 n3 b2 k4 n4) (f2 : FrAt17 W m2 a2 k3 n3 b2 k4 n4 (scoreQ l A B)) (hP : GainArg l G H A B)
    (hR : ∀ (m : Bool) (p : Option Addr) (k n : Nat) (p' : Option Addr) (k' n' : Nat) (wx : World) (y59 y60 y61 y62 y63 : Value), Cell3 wx R m p k n p' k' n' → FrAt17 wx m p k n p' k' n' (gainQ l G H A B) → (W.heap.size ≤ wx.heap.size ∧ ∀ B, B ≤ R → B ≤ W.heap.size → Below B W wx) → Q .ret ⟨#[x0, x1, x2, x3, x4, x5, .pointer (some ⟨R, 0, none⟩), .int .i64 0, x8, x9, x10, x11, x12, x13, .pointer (some ⟨s2, 0, none⟩), x15, .pointer (some ⟨s1, 0, none⟩), x17, x18, x19, x20, x21, x22, x23, x24, x25, x26, x27, x28, x29, x30, x31, x32, x33, x34, x35, x36, x37, x38, x39, x40, x41, x42, x43, x44, x45, x46, x47, x48, x49, x50, x51, x52, x53, x54, x55, x56, x57, x58, y59, y60, y61, y62, y63], []⟩ wx) :
    Code.wp Tryz.prog ((Tryz.f7.body.bind (pcFrom 8)).getD .skip) Q ⟨#[x0, x1, x2, x3, x4, x5, .pointer (some ⟨R, 0, none⟩), x7, x8, x9, x10, x11, x12, x13, .pointer (some ⟨s2, 0, none⟩), x15, .pointer (some ⟨s1, 0, none⟩), x17, x18, x19, x20, x21, x22, x23, x24, x25, x26, x27, x28, x29, x30, x31, x32, x33, x34, x35, x36, x37, x38, x39, x40, x41, x42, x43, x44, x45, x46, x47, x48, x49, x50, x51, x52, x53, x54, x55, x56, x57, x58, x59, x60, x61, x62, x63], []⟩ W := by
  conv => arg 2; whnf
  have HR : Hid (∀ (m : Bool) (p : Option Addr) (k n : Nat) (p' : Option Addr) (k' n' : Nat) (wx : World) (y59 y60 y61 y62 y63 : Value), Cell3 wx R m p k n p' k' n' → FrAt17 wx m p k n p' k' n' (gainQ l G H A B) → (W.heap.size ≤ wx.heap.size ∧ ∀ B, B ≤ R → B ≤ W.heap.size → Below B W wx) → Q .ret ⟨#[x0, x1, x2, x3, x4, x5, .pointer (some ⟨R, 0, none⟩), .int .i64 0, x8, x9, x10, x11, x12, x13, .pointer (some ⟨s2, 0, none⟩), x15, .pointer (some ⟨s1, 0, none⟩), x17, x18, x19, x20, x21, x22, x23, x24, x25, x26, x27, x28, x29, x30, x31, x32, x33, x34, x35, x36, x37, x38, x39, x40, x41, x42, x43, x44, x45, x46, x47, x48, x49, x50, x51, x52, x53, x54, x55, x56, x57, x58, y59, y60, y61, y62, y63], []⟩ wx) := hR
  clear hR
  obtain ⟨x0, x1, x2, -, -, -⟩ := h1
  obtain ⟨y0, y1, y2, -, -, -⟩ := h2
  have HC := (show Hid _ from sub17_any hP f1 f2)
  have HRc : Hid (∀ wx, Below W.heap.size W wx → Cell3 wx R false none 0 0 none 0 0) := fun wx hb => hr.below hb
  clear f1 f2 hP hr
  go_wp2_with fail
  refine Calls.mono HC.out ?_
  rintro e w1 ⟨m, p, k, n, p', k', n', rfl, hF, hb⟩
  have hr1 := HRc.out w1 hb
  have HK : Hid (Cell3 (((w1.setCell ⟨R, 0, none⟩ (.bool m)).setCell ⟨R, 1, none⟩ (.slice p k n)).setCell ⟨R, 2, none⟩ (.slice p' k' n')) R m p k n p' k' n' ∧ FrAt17 (((w1.setCell ⟨R, 0, none⟩ (.bool m)).setCell ⟨R, 1, none⟩ (.slice p k n)).setCell ⟨R, 2, none⟩ (.slice p' k' n')) m p k n p' k' n' (gainQ l G H A B) ∧ (W.heap.size ≤ (((w1.setCell ⟨R, 0, none⟩ (.bool m)).setCell ⟨R, 1, none⟩ (.slice p k n)).setCell ⟨R, 2, none⟩ (.slice p' k' n')).heap.size ∧ ∀ B, B ≤ R → B ≤ W.heap.size → Below B W (((w1.setCell ⟨R, 0, none⟩ (.bool m)).setCell ⟨R, 1, none⟩ (.slice p k n)).setCell ⟨R, 2, none⟩ (.slice p' k' n')))) := by
    obtain ⟨us, vs, u1, u2, u3⟩ := hF
    have hB : ∀ B, B ≤ R → B ≤ W.heap.size → Below B W (((w1.setCell ⟨R, 0, none⟩ (.bool m)).setCell ⟨R, 1, none⟩ (.slice p k n)).setCell ⟨R, 2, none⟩ (.slice p' k' n')) := fun B h1 h2 => put3_below (hb.mono h2) h1 _ _ _
    exact ⟨hr1.put m p p' k n k' n', ⟨us, vs, Nums.put3 hr1 u1 _ _ _, Nums.put3 hr1 u2 _ _ _, u3⟩, (by simpa using hb.size), hB⟩
  obtain ⟨r0, r1, r2, f0, f1, f2⟩ := hr1
  clear HC HRc hF hb x0 x1 x2 y0 y1 y2
  go_wp2_with fail
  exact HR.out _ _ _ _ _ _ _ _ _ _ _ _ _ HK.out.1 HK.out.2.1 HK.out.2.2

set_option maxRecDepth 100000 in
theorem gx_ret {x0 x1 x2 x3 x4 x5 x8 x9 x10 x11 x12 x13 x14 x15 x16 x17 x18 x19 x20 x21 x22 x23 x24 x25 x26 x27 x28 x29 x30 x31 x32 x33 x34 x35 x36 x37 x38 x39 x40 x41 x42 x43 x44 x45 x46 x47 x48 x49 x50 x51 x52 x53 x54 x55 x56 x57 x58 x59 x60 x61 x62 x63 : Value} {R : Nat} {m : Bool} {p p' : Option Addr} {k n k' n' : Nat} {er : Int} {post : Ending → World → Prop} {W : World} (hr : Cell3 W R m p k n p' k' n') (h : post (.returned (.tuple #[.agg #[.bool m, .slice p k n, .slice p' k' n'], .int .i64 er])) W) : bodyPost Tryz.prog Tryz.f7 post .ret ⟨#[x0, x1, x2, x3, x4, x5, .pointer (some ⟨R, 0, none⟩), .int .i64 er, x8, x9, x10, x11, x12, x13, x14, x15, x16, x17, x18, x19, x20, x21, x22, x23, x24, x25, x26, x27, x28, x29, x30, x31, x32, x33, x34, x35, x36, x37, x38, x39, x40, x41, x42, x43, x44, x45, x46, x47, x48, x49, x50, x51, x52, x53, x54, x55, x56, x57, x58, x59, x60, x61, x62, x63], []⟩ W := by
  obtain ⟨r0, r1, r2, -⟩ := hr
  exact bodyPost_ret (v := .tuple #[.agg #[.bool m, .slice p k n, .slice p' k' n'], .int .i64 er]) (by simp [results, Tryz.results7, go_sem, r0, r1, r2]) rfl h

end Go.Proofs.YtchmlfjjgehbkaaGreat

namespace Go.Proofs.YtchmlfjjgehbkaaGreat
open Go.RowKit

set_option maxRecDepth 100000 in
set_option maxHeartbeats 3200000 in
theorem r17gain_any (l G H A B : Int) (w : World) (hl : -9223372036854775808 ≤ l ∧ l < 9223372036854775808) : Calls Tryz.prog 7 #[.int .i64 l, .agg #[.int .i64 G, .int .i64 H], .agg #[.int .i64 A, .int .i64 B]] w fun e w' => FT17 (GainArg l G H A B) (gainQ l G H A B) w e w' := by
  have hv1 := balloc w (.cells #[.int .i64 G, .int .i64 H] 23)
  have hv2 := balloc (w.alloc (.cells #[.int .i64 G, .int .i64 H] 23)) (.cells #[.int .i64 A, .int .i64 B] 23)
  have hv3 := balloc ((w.alloc (.cells #[.int .i64 G, .int .i64 H] 23)).alloc (.cells #[.int .i64 A, .int .i64 B] 23)) (.cells #[.bool false, .slice none 0 0, .slice none 0 0] 30)
  have hV := bthen (bthen hv1 hv2) hv3
  have s1 : SVar (((w.alloc (.cells #[.int .i64 G, .int .i64 H] 23)).alloc (.cells #[.int .i64 A, .int .i64 B] 23)).alloc (.cells #[.bool false, .slice none 0 0, .slice none 0 0] 30)) w.heap.size G H := SVar.below (SVar.below (heap_alloc_new w _) hv2) hv3
  have s2 : SVar (((w.alloc (.cells #[.int .i64 G, .int .i64 H] 23)).alloc (.cells #[.int .i64 A, .int .i64 B] 23)).alloc (.cells #[.bool false, .slice none 0 0, .slice none 0 0] 30)) (w.heap.size + 1) A B := by
    have := SVar.below (W := ((w.alloc (.cells #[.int .i64 G, .int .i64 H] 23)).alloc (.cells #[.int .i64 A, .int .i64 B] 23))) (g := (w.alloc (.cells #[.int .i64 G, .int .i64 H] 23)).heap.size) (G := A) (H := B) (heap_alloc_new (w.alloc (.cells #[.int .i64 G, .int .i64 H] 23)) _) hv3
    simpa using this
  have hR : Cell3 (((w.alloc (.cells #[.int .i64 G, .int .i64 H] 23)).alloc (.cells #[.int .i64 A, .int .i64 B] 23)).alloc (.cells #[.bool false, .slice none 0 0, .slice none 0 0] 30)) (w.heap.size + 1 + 1) false none 0 0 none 0 0 := by
    have := Cell3.new ((w.alloc (.cells #[.int .i64 G, .int .i64 H] 23)).alloc (.cells #[.int .i64 A, .int .i64 B] 23)) false none none 0 0 0 0
    simpa using this
  have hBad : ∀ W, Cell3 W (w.heap.size + 1 + 1) false none 0 0 none 0 0 → Below w.heap.size w W → ¬ GainArg l G H A B → Cell3 (((W.setCell ⟨w.heap.size + 1 + 1, 0, none⟩ (.bool false)).setCell ⟨w.heap.size + 1 + 1, 1, none⟩ (.slice none 0 0)).setCell ⟨w.heap.size + 1 + 1, 2, none⟩ (.slice none 0 0)) (w.heap.size + 1 + 1) false none 0 0 none 0 0 ∧ FT17 (GainArg l G H A B) (gainQ l G H A B) w (.returned (.tuple #[.agg #[.bool false, .slice none 0 0, .slice none 0 0], .int .i64 1])) (((W.setCell ⟨w.heap.size + 1 + 1, 0, none⟩ (.bool false)).setCell ⟨w.heap.size + 1 + 1, 1, none⟩ (.slice none 0 0)).setCell ⟨w.heap.size + 1 + 1, 2, none⟩ (.slice none 0 0)) := fun W h hb hn =>
    ⟨h.put false none none 0 0 0 0, fun e => absurd e hn, fun _ => ⟨false, none, 0, 0, none, 0, 0, [], [], 1, rfl, ⟨Nums.nil _, Nums.nil _⟩, ToldF.bad rfl, put3_below hb (g := w.heap.size + 1 + 1) (by omega) _ _ _⟩⟩
  go_enter Tryz.func7, Tryz.ntmps7
  refine pcSeq (fun Q0 n0 r0 _ => gx_p0 ?_)
  intros
  refine n0 _ _ (pcSeq (fun Q1 n1 r1 _ => gx_p1 s1 s2 ?_))
  intro X Y b s w1
  intros
  rename_i hz hxy hs hsw hb1
  have hR1 := hR.below hb1
  have hB1 := bthen hV hb1
  refine n1 _ _ (pcSeq (fun Q2 n2 r2 _ => gx_p2 hR1 ?_ ?_))
  · intros
    rename_i hbt hlam
    have hsm := hz.1 hbt
    obtain ⟨rfl, rfl⟩ := hxy hbt
    have hP : GainArg l G H A B := ⟨hlam, hsm⟩
    obtain ⟨a1, a2, a3⟩ := gain_args17 hP
    refine n2 _ _ (pcSeq (fun Q4 n4 r4 _ => gx_p4 (s1.below hb1) a1 hl ?_))
    intro m1 p1 k1 j1 p1' k1' j1' t1 w2
    intros
    rename_i c1 f1 ht1 hb2
    refine n4 _ _ (pcSeq (fun Q5 n5 r5 _ => gx_p5 (hs.below hb2) a2 hl ?_))
    intro m2 p2 k2 j2 p2' k2' j2' t2 w3
    intros
    rename_i c2 f2 ht2 hb3
    refine n5 _ _ (pcSeq (fun Q6 n6 r6 _ => gx_p6 ((s2.below hb1).below (bthen hb2 hb3)) a3 hl ?_))
    intro m3 p3 k3 j3 p3' k3' j3' t3 w4
    intros
    rename_i c3 f3 ht3 hb4
    refine n6 _ _ (pcSeq (fun Q7 n7 r7 _ => gx_p7 (c1.below (bthen hb3 hb4)) (f1.below (bthen hb3 hb4)) (c2.below hb4) (f2.below hb4) hP ?_))
    intro m4 p4 k4 j4 p4' k4' j4' t4 w5
    intros
    rename_i c4 f4 ht4 hb5
    have hB5 := bthen hB1 (bthen hb2 (bthen hb3 (bthen hb4 hb5)))
    refine n7 _ _ (gx_p8 (hR1.below (bthen hb2 (bthen hb3 (bthen hb4 hb5)))) c4 f4 (c3.below hb5) (f3.below hb5) hP ?_)
    intro m p k n p' k' n' wx
    intros
    rename_i hc hf hbx
    obtain ⟨us, vs, u1, u2, u3, u4⟩ := hf
    refine gx_ret hc ⟨fun _ => ⟨m, p, k, n, p', k', n', us, vs, 0, rfl, ⟨u1, u2⟩, ToldF.good rfl u3 u4, hB5.trans (hbx.2 _ (by omega) hB5.size)⟩, fun e => absurd hP e⟩
  · intros
    rename_i hno
    obtain ⟨z1, z2⟩ := hBad w1 hR1 hB1 (fun h => hno ⟨hz.2 h.2, h.1⟩)
    exact r2 _ _ (gx_ret z1 z2)
end Go.Proofs.YtchmlfjjgehbkaaGreat

/-
  What splits are worth: apart, Gain, enough. Written by mk/x17.py.
-/
import Derived.Test.YtchmlfjjgehbkaaGreatX17C
namespace Go.Proofs.YtchmlfjjgehbkaaGreat
open Go.RowKit

attribute [local go_sem] run_mag17
set_option maxRecDepth 100000 in
set_option maxHeartbeats 12800000 in
theorem xa_p0 {x0 x3 x4 x5 x6 x7 x8 x9 x10 x11 x12 x13 x14 x15 x16 x17 x18 x19 x20 x21 : Value} {Q : Exit → Act → World → Prop} {W : World} {G H A B : Int} 
    (hN : Q .normal ⟨#[x0, .agg #[.int .i64 G, .int .i64 H], .agg #[.int .i64 A, .int .i64 B], x3, .pointer (some ⟨W.heap.size, 0, none⟩), .pointer (some ⟨(W.heap.size + 1), 0, none⟩), .pointer (some ⟨(W.heap.size + 1 + 1), 0, none⟩), x7, x8, x9, x10, x11, x12, x13, x14, x15, x16, x17, x18, x19, x20, x21], []⟩ (((W.alloc (.cells #[.int .i64 G, .int .i64 H] 23)).alloc (.cells #[.int .i64 A, .int .i64 B] 23)).alloc (.cells #[.bool false, .slice none 0 0, .slice none 0 0] 30))) :
    Code.wp Tryz.prog ((Tryz.f16.body.bind (pcAt 0)).getD .skip) Q ⟨#[x0, .agg #[.int .i64 G, .int .i64 H], .agg #[.int .i64 A, .int .i64 B], x3, x4, x5, x6, x7, x8, x9, x10, x11, x12, x13, x14, x15, x16, x17, x18, x19, x20, x21], []⟩ W := by
  conv => arg 2; whnf
  have HN : Hid (Q .normal ⟨#[x0, .agg #[.int .i64 G, .int .i64 H], .agg #[.int .i64 A, .int .i64 B], x3, .pointer (some ⟨W.heap.size, 0, none⟩), .pointer (some ⟨(W.heap.size + 1), 0, none⟩), .pointer (some ⟨(W.heap.size + 1 + 1), 0, none⟩), x7, x8, x9, x10, x11, x12, x13, x14, x15, x16, x17, x18, x19, x20, x21], []⟩ (((W.alloc (.cells #[.int .i64 G, .int .i64 H] 23)).alloc (.cells #[.int .i64 A, .int .i64 B] 23)).alloc (.cells #[.bool false, .slice none 0 0, .slice none 0 0] 30))) := hN
  clear hN
  go_wp2_with fail
  exact HN.out   

set_option maxRecDepth 100000 in
set_option maxHeartbeats 12800000 in
theorem xa_p1 {x1 x2 x3 x6 x7 x8 x9 x10 x11 x12 x13 x14 x15 x16 x17 x18 x19 x20 x21 : Value} {Q : Exit → Act → World → Prop} {W : World} {g1 g2 : Nat} {l G H A B : Int} (h1 : SVar W g1 G H) (h2 : SVar W g2 A B) (hP : GainArg l G H A B)
    (hN : ∀ (m : Bool) (p : Option Addr) (k n : Nat) (p' : Option Addr) (k' n' : Nat) (s : Nat) (wx : World) (y8 y9 y10 y11 y12 y13 y14 y15 y16 y17 y18 y19 y20 : Value), Cell3 wx s m p k n p' k' n' → FrAt17 wx m p k n p' k' n' (bothQ l G H A B) → W.heap.size ≤ s → Below W.heap.size W wx → Q .normal ⟨#[.int .i64 l, x1, x2, x3, .pointer (some ⟨g1, 0, none⟩), .pointer (some ⟨g2, 0, none⟩), x6, .pointer (some ⟨s, 0, none⟩), y8, y9, y10, y11, y12, y13, y14, y15, y16, y17, y18, y19, y20, x21], []⟩ wx) :
    Code.wp Tryz.prog ((Tryz.f16.body.bind (pcAt 1)).getD .skip) Q ⟨#[.int .i64 l, x1, x2, x3, .pointer (some ⟨g1, 0, none⟩), .pointer (some ⟨g2, 0, none⟩), x6, x7, x8, x9, x10, x11, x12, x13, x14, x15, x16, x17, x18, x19, x20, x21], []⟩ W := by
  conv => arg 2; whnf
  have HN : Hid (∀ (m : Bool) (p : Option Addr) (k n : Nat) (p' : Option Addr) (k' n' : Nat) (s : Nat) (wx : World) (y8 y9 y10 y11 y12 y13 y14 y15 y16 y17 y18 y19 y20 : Value), Cell3 wx s m p k n p' k' n' → FrAt17 wx m p k n p' k' n' (bothQ l G H A B) → W.heap.size ≤ s → Below W.heap.size W wx → Q .normal ⟨#[.int .i64 l, x1, x2, x3, .pointer (some ⟨g1, 0, none⟩), .pointer (some ⟨g2, 0, none⟩), x6, .pointer (some ⟨s, 0, none⟩), y8, y9, y10, y11, y12, y13, y14, y15, y16, y17, y18, y19, y20, x21], []⟩ wx) := hN
  clear hN
  have HS : Hid (∀ wx, Below W.heap.size W wx → wx.cell? ⟨g1, 0, none⟩ = some (.int .i64 G) ∧ wx.cell? ⟨g1, 1, none⟩ = some (.int .i64 H) ∧ wx.cell? ⟨g2, 0, none⟩ = some (.int .i64 A) ∧ wx.cell? ⟨g2, 1, none⟩ = some (.int .i64 B)) := fun wx h => ⟨bkeep h h1.cell.1 rfl, bkeep h h1.cell.2 rfl, bkeep h h2.cell.1 rfl, bkeep h h2.cell.2 rfl⟩
  obtain ⟨hL, hRt, hAl⟩ := gain_args17 hP
  have hb2 := bothQ_fits17 hP
  rw [bothQ_add17] at HN hb2
  obtain ⟨X, hX⟩ : ∃ X, X = A - G := ⟨_, rfl⟩
  obtain ⟨Y, hY⟩ : ∃ Y, Y = B - H := ⟨_, rfl⟩
  rw [← hX, ← hY] at HN hb2 hRt
  have HC1 : Hid (∀ wx, Below W.heap.size W wx → Calls Tryz.prog 17 #[.int .i64 l, .agg #[.int .i64 G, .int .i64 H]] wx fun e w' => ∃ m p k n p' k' n', e = .returned (.agg #[.bool m, .slice p k n, .slice p' k' n']) ∧ Hid (FrAt17 w' m p k n p' k' n' (scoreQ l G H)) ∧ Below W.heap.size W w' ∧ (∀ g', Cell3 wx g' false none 0 0 none 0 0 → Cell3 w' g' false none 0 0 none 0 0)) := fun wx h => (x17score_any l G H wx hL).mono (fun e w' q => by
    obtain ⟨m, p, k, n, p', k', n', rfl, hF, hb⟩ := q
    exact ⟨m, p, k, n, p', k', n', rfl, hF, bthen h hb, fun g' z => z.below hb⟩)
  have HC2 : Hid (∀ wx m1 p1 k1 n1 p1' k1' n1', FrAt17 wx m1 p1 k1 n1 p1' k1' n1' (scoreQ l G H) → Below W.heap.size W wx → Calls Tryz.prog 34 #[.agg #[.int .i64 G, .int .i64 H], .agg #[.int .i64 A, .int .i64 B]] wx fun e w' => e = .returned (.agg #[.int .i64 X, .int .i64 Y]) ∧ Hid (FrAt17 w' m1 p1 k1 n1 p1' k1' n1' (scoreQ l G H)) ∧ Below W.heap.size W w' ∧ (∀ g', Cell3 wx g' false none 0 0 none 0 0 → Cell3 w' g' false none 0 0 none 0 0)) := fun wx m1 p1 k1 n1 p1' k1' n1' f1 h => (x17others_any G H A B wx hP.2.1 hP.2.2.1).mono (fun e w' q => by
    obtain ⟨rfl, hb⟩ := q
    rw [hX, hY]
    exact ⟨rfl, f1.below hb, bthen h hb, fun g' z => z.below hb⟩)
  have HC3 : Hid (∀ wx m1 p1 k1 n1 p1' k1' n1', FrAt17 wx m1 p1 k1 n1 p1' k1' n1' (scoreQ l G H) → Below W.heap.size W wx → Calls Tryz.prog 17 #[.int .i64 l, .agg #[.int .i64 X, .int .i64 Y]] wx fun e w' => ∃ m p k n p' k' n', e = .returned (.agg #[.bool m, .slice p k n, .slice p' k' n']) ∧ Hid (FrAt17 w' m1 p1 k1 n1 p1' k1' n1' (scoreQ l G H) ∧ FrAt17 w' m p k n p' k' n' (scoreQ l X Y)) ∧ Below W.heap.size W w' ∧ (∀ g', Cell3 wx g' false none 0 0 none 0 0 → Cell3 w' g' false none 0 0 none 0 0)) := fun wx m1 p1 k1 n1 p1' k1' n1' f1 h => (x17score_any l X Y wx hRt).mono (fun e w' q => by
    obtain ⟨m, p, k, n, p', k', n', rfl, hF, hb⟩ := q
    exact ⟨m, p, k, n, p', k', n', rfl, ⟨f1.below hb, hF⟩, bthen h hb, fun g' z => z.below hb⟩)
  have HC4 : Hid (∀ wx m1 p1 k1 n1 p1' k1' n1' m2 p2 k2 n2 p2' k2' n2', FrAt17 wx m1 p1 k1 n1 p1' k1' n1' (scoreQ l G H) → FrAt17 wx m2 p2 k2 n2 p2' k2' n2' (scoreQ l X Y) → Below W.heap.size W wx → Calls Tryz.prog 40 #[.agg #[.bool m1, .slice p1 k1 n1, .slice p1' k1' n1'], .agg #[.bool m2, .slice p2 k2 n2, .slice p2' k2' n2']] wx fun e w' => ∃ m p k n p' k' n', e = .returned (.tuple #[.agg #[.bool m, .slice p k n, .slice p' k' n'], .int .i64 0]) ∧ Hid (FrAt17 w' m p k n p' k' n' (addQ17 (scoreQ l G H) (scoreQ l X Y))) ∧ Below W.heap.size W w' ∧ (∀ g', Cell3 wx g' false none 0 0 none 0 0 → Cell3 w' g' false none 0 0 none 0 0)) := fun wx m1 p1 k1 n1 p1' k1' n1' m2 p2 k2 n2 p2' k2' n2' f1 f2 h => (x17add_any (score_fit17 hL) (score_fit17 hRt) hb2 f1 f2).mono (fun e w' q => by
    obtain ⟨m, p, k, n, p', k', n', rfl, hF, hb⟩ := q
    exact ⟨m, p, k, n, p', k', n', rfl, hF, bthen h hb, fun g' z => z.below hb⟩)
  obtain ⟨z0, z1, z2, z3⟩ := HS.out W (Below.refl _ _)
  clear h1 h2 hP hL hRt hAl hb2 hX hY
  refine wp_pcOnly ?_
  go_wp2_with fail
  go_region_held3 (fun w' => w'.cell? ⟨g1, 0, none⟩ = some (.int .i64 G) ∧ w'.cell? ⟨g1, 1, none⟩ = some (.int .i64 H) ∧ w'.cell? ⟨g2, 0, none⟩ = some (.int .i64 A) ∧ w'.cell? ⟨g2, 1, none⟩ = some (.int .i64 B)) (first | with_reducible exact HS.out _ (by repeat (first | exact Below.refl _ _ | assumption | refine bdr12 ?_ | refine bgr12 ?_ _ | (refine bst17 ?_ ?_ _; rotate_left; focus (first | (dsimp only; omega) | (simp; done) | (simp; omega) | fail)))) | go_keep | assumption) (first
    | (go_at_call 17; with_reducible refine Calls.mono (HC1.out _ (by repeat (first | exact Below.refl _ _ | assumption | refine bdr12 ?_ | refine bgr12 ?_ _ | (refine bst17 ?_ ?_ _; rotate_left; focus (first | (dsimp only; omega) | (simp; done) | (simp; omega) | fail))))) ?_; rintro e w5 ⟨m1, p1, k1, n1, p1', k1', n1', rfl, hF1, b5, k5⟩; have y5 := b5.size; (first | (have T5 : Cell3 w5 W.heap.size false none 0 0 none 0 0 := k5 _ (Cell3.drew17 (Cell3.new W false none none 0 0 0 0))) | (have T5 : Cell3 w5 W.heap.size false none 0 0 none 0 0 := k5 _ (Cell3.new W false none none 0 0 0 0)) | skip))
    | (go_at_call 34; with_reducible refine Calls.mono (HC2.out _ m1 p1 k1 n1 p1' k1' n1' ?_ (by repeat (first | exact Below.refl _ _ | assumption | refine bdr12 ?_ | refine bgr12 ?_ _ | (refine bst17 ?_ ?_ _; rotate_left; focus (first | (dsimp only; omega) | (simp; done) | (simp; omega) | fail))))) ?_; (focus (repeat (first | with_reducible exact hF1.out | refine FrAt17.drew17 ?_ | refine FrAt17.grow17 ?_ _))); rintro e w6 ⟨rfl, hF2, b6, k6⟩; have y6 := b6.size; (first | (have T6 : Cell3 w6 W.heap.size false none 0 0 none 0 0 := k6 _ T5) | (have T6 : Cell3 w6 W.heap.size false none 0 0 none 0 0 := k6 _ (Cell3.drew17 T5)) | (have T6 : Cell3 w6 w5.heap.size false none 0 0 none 0 0 := k6 _ (Cell3.drew17 (Cell3.new w5 false none none 0 0 0 0))) | (have T6 : Cell3 w6 w5.heap.size false none 0 0 none 0 0 := k6 _ (Cell3.new w5 false none none 0 0 0 0)) | skip))
    | (go_at_call 17; with_reducible refine Calls.mono (HC3.out _ m1 p1 k1 n1 p1' k1' n1' ?_ (by repeat (first | exact Below.refl _ _ | assumption | refine bdr12 ?_ | refine bgr12 ?_ _ | (refine bst17 ?_ ?_ _; rotate_left; focus (first | (dsimp only; omega) | (simp; done) | (simp; omega) | fail))))) ?_; (focus (repeat (first | with_reducible exact hF2.out | refine FrAt17.drew17 ?_ | refine FrAt17.grow17 ?_ _))); rintro e w7 ⟨m2, p2, k2, n2, p2', k2', n2', rfl, hF3, b7, k7⟩; have y7 := b7.size; (first | (have T7 : Cell3 w7 W.heap.size false none 0 0 none 0 0 := k7 _ T6) | (have T7 : Cell3 w7 W.heap.size false none 0 0 none 0 0 := k7 _ (Cell3.drew17 T6)) | (have T7 : Cell3 w7 w5.heap.size false none 0 0 none 0 0 := k7 _ T6) | (have T7 : Cell3 w7 w5.heap.size false none 0 0 none 0 0 := k7 _ (Cell3.drew17 T6)) | (have T7 : Cell3 w7 w6.heap.size false none 0 0 none 0 0 := k7 _ (Cell3.drew17 (Cell3.new w6 false none none 0 0 0 0))) | (have T7 : Cell3 w7 w6.heap.size false none 0 0 none 0 0 := k7 _ (Cell3.new w6 false none none 0 0 0 0)) | skip))
    | (go_at_call 40; with_reducible refine Calls.mono (HC4.out _ m1 p1 k1 n1 p1' k1' n1' m2 p2 k2 n2 p2' k2' n2' ?_ ?_ (by repeat (first | exact Below.refl _ _ | assumption | refine bdr12 ?_ | refine bgr12 ?_ _ | (refine bst17 ?_ ?_ _; rotate_left; focus (first | (dsimp only; omega) | (simp; done) | (simp; omega) | fail))))) ?_; (focus (repeat (first | with_reducible exact hF3.out.1 | refine FrAt17.drew17 ?_ | refine FrAt17.grow17 ?_ _))); (focus (repeat (first | with_reducible exact hF3.out.2 | refine FrAt17.drew17 ?_ | refine FrAt17.grow17 ?_ _))); rintro e w8 ⟨m, p, k, n, p', k', n', rfl, hF, b8, k8⟩; have y8 := b8.size; (first | (have T8 : Cell3 w8 W.heap.size false none 0 0 none 0 0 := k8 _ T7) | (have T8 : Cell3 w8 W.heap.size false none 0 0 none 0 0 := k8 _ (Cell3.drew17 T7)) | (have T8 : Cell3 w8 w5.heap.size false none 0 0 none 0 0 := k8 _ T7) | (have T8 : Cell3 w8 w5.heap.size false none 0 0 none 0 0 := k8 _ (Cell3.drew17 T7)) | (have T8 : Cell3 w8 w6.heap.size false none 0 0 none 0 0 := k8 _ T7) | (have T8 : Cell3 w8 w6.heap.size false none 0 0 none 0 0 := k8 _ (Cell3.drew17 T7)) | (have T8 : Cell3 w8 w7.heap.size false none 0 0 none 0 0 := k8 _ (Cell3.drew17 (Cell3.new w7 false none none 0 0 0 0))) | (have T8 : Cell3 w8 w7.heap.size false none 0 0 none 0 0 := k8 _ (Cell3.new w7 false none none 0 0 0 0)) | skip); (first | (have U8 := T8; obtain ⟨C0, C1, C2, F0, F1, F2⟩ := U8) | skip))
    | fail)
  all_goals
    first
      | exact HN.out _ _ _ _ _ _ _ _ _ _ _ _ _ _ _ _ _ _ _ _ _ _ (Cell3.new w8 m p p' k n k' n') (hF.out.below (balloc _ _)) y8 (bthen b8 (balloc _ _))
      | (obtain ⟨v1, v2, v3, v4⟩ := fin17 T8 b8 (by omega) hF.out
         exact HN.out _ _ _ _ _ _ _ _ _ _ _ _ _ _ _ _ _ _ _ _ _ _ v1 v2 v3 v4)
      | fail

set_option maxRecDepth 100000 in
set_option maxHeartbeats 12800000 in
theorem xa_p2 {x0 x1 x2 x3 x4 x5 x8 x9 x10 x11 x12 x13 x14 x15 x16 x17 x18 x19 x20 x21 : Value} {Q : Exit → Act → World → Prop} {W : World} {R s : Nat} {q : Q17} {m : Bool} {p : Option Addr} {k n : Nat} {p' : Option Addr} {k' n' : Nat} (hr : Cell3 W R false none 0 0 none 0 0) (hs : Cell3 W s m p k n p' k' n') (hf : FrAt17 W m p k n p' k' n' q)
    (hR : ∀ (wx : World) (y21 : Value), Cell3 wx R m p k n p' k' n' → FrAt17 wx m p k n p' k' n' q → (∀ B, B ≤ R → B ≤ W.heap.size → Below B W wx) → W.heap.size ≤ wx.heap.size → Q .ret ⟨#[x0, x1, x2, x3, x4, x5, .pointer (some ⟨R, 0, none⟩), .pointer (some ⟨s, 0, none⟩), x8, x9, x10, x11, x12, x13, x14, x15, x16, x17, x18, x19, x20, y21], []⟩ wx) :
    Code.wp Tryz.prog ((Tryz.f16.body.bind (pcFrom 2)).getD .skip) Q ⟨#[x0, x1, x2, x3, x4, x5, .pointer (some ⟨R, 0, none⟩), .pointer (some ⟨s, 0, none⟩), x8, x9, x10, x11, x12, x13, x14, x15, x16, x17, x18, x19, x20, x21], []⟩ W := by
  conv => arg 2; whnf
  have HR : Hid (∀ (wx : World) (y21 : Value), Cell3 wx R m p k n p' k' n' → FrAt17 wx m p k n p' k' n' q → (∀ B, B ≤ R → B ≤ W.heap.size → Below B W wx) → W.heap.size ≤ wx.heap.size → Q .ret ⟨#[x0, x1, x2, x3, x4, x5, .pointer (some ⟨R, 0, none⟩), .pointer (some ⟨s, 0, none⟩), x8, x9, x10, x11, x12, x13, x14, x15, x16, x17, x18, x19, x20, y21], []⟩ wx) := hR
  clear hR
  have HK : Hid (Cell3 (((W.setCell ⟨R, 0, none⟩ (.bool m)).setCell ⟨R, 1, none⟩ (.slice p k n)).setCell ⟨R, 2, none⟩ (.slice p' k' n')) R m p k n p' k' n' ∧ FrAt17 (((W.setCell ⟨R, 0, none⟩ (.bool m)).setCell ⟨R, 1, none⟩ (.slice p k n)).setCell ⟨R, 2, none⟩ (.slice p' k' n')) m p k n p' k' n' q ∧ (∀ B, B ≤ R → B ≤ W.heap.size → Below B W (((W.setCell ⟨R, 0, none⟩ (.bool m)).setCell ⟨R, 1, none⟩ (.slice p k n)).setCell ⟨R, 2, none⟩ (.slice p' k' n'))) ∧ W.heap.size ≤ (((W.setCell ⟨R, 0, none⟩ (.bool m)).setCell ⟨R, 1, none⟩ (.slice p k n)).setCell ⟨R, 2, none⟩ (.slice p' k' n')).heap.size) := ⟨hr.put m p p' k n k' n', FrAt17.put17 hf hr, fun B h1 h2 => put3_below ((Below.refl _ W).mono h2) h1 _ _ _, by simp⟩
  obtain ⟨r0, r1, r2, f0, f1, f2⟩ := hr
  obtain ⟨x0, x1, x2, -, -, -⟩ := hs
  clear hf
  go_wp2_with fail
  exact HR.out _ _ HK.out.1 HK.out.2.1 HK.out.2.2.1 HK.out.2.2.2

set_option maxRecDepth 100000 in
theorem xa_ret {x0 x1 x2 x3 x4 x5 x7 x8 x9 x10 x11 x12 x13 x14 x15 x16 x17 x18 x19 x20 x21 : Value} {R : Nat} {m : Bool} {p p' : Option Addr} {k n k' n' : Nat} {post : Ending → World → Prop} {W : World} (hr : Cell3 W R m p k n p' k' n') (h : post (.returned (.agg #[.bool m, .slice p k n, .slice p' k' n'])) W) : bodyPost Tryz.prog Tryz.f16 post .ret ⟨#[x0, x1, x2, x3, x4, x5, .pointer (some ⟨R, 0, none⟩), x7, x8, x9, x10, x11, x12, x13, x14, x15, x16, x17, x18, x19, x20, x21], []⟩ W := by
  obtain ⟨r0, r1, r2, -⟩ := hr
  exact bodyPost_ret (v := .agg #[.bool m, .slice p k n, .slice p' k' n']) (by simp [results, Tryz.results16, go_sem, r0, r1, r2]) rfl h

set_option maxRecDepth 100000 in
set_option maxHeartbeats 3200000 in
theorem x17apart_any (l G H A B : Int) (w : World) (hP : GainArg l G H A B) : Calls Tryz.prog 16 #[.int .i64 l, .agg #[.int .i64 G, .int .i64 H], .agg #[.int .i64 A, .int .i64 B]] w fun e w' => Fr17T (bothQ l G H A B) w e w' := by
  have hv1 := balloc w (.cells #[.int .i64 G, .int .i64 H] 23)
  have hv2 := balloc (w.alloc (.cells #[.int .i64 G, .int .i64 H] 23)) (.cells #[.int .i64 A, .int .i64 B] 23)
  have hv3 := balloc ((w.alloc (.cells #[.int .i64 G, .int .i64 H] 23)).alloc (.cells #[.int .i64 A, .int .i64 B] 23)) (.cells #[.bool false, .slice none 0 0, .slice none 0 0] 30)
  have hV := bthen (bthen hv1 hv2) hv3
  have s1 : SVar (((w.alloc (.cells #[.int .i64 G, .int .i64 H] 23)).alloc (.cells #[.int .i64 A, .int .i64 B] 23)).alloc (.cells #[.bool false, .slice none 0 0, .slice none 0 0] 30)) w.heap.size G H := SVar.below (SVar.below (heap_alloc_new w _) hv2) hv3
  have s2 : SVar (((w.alloc (.cells #[.int .i64 G, .int .i64 H] 23)).alloc (.cells #[.int .i64 A, .int .i64 B] 23)).alloc (.cells #[.bool false, .slice none 0 0, .slice none 0 0] 30)) (w.heap.size + 1) A B := by
    have := SVar.below (W := ((w.alloc (.cells #[.int .i64 G, .int .i64 H] 23)).alloc (.cells #[.int .i64 A, .int .i64 B] 23))) (g := (w.alloc (.cells #[.int .i64 G, .int .i64 H] 23)).heap.size) (G := A) (H := B) (heap_alloc_new (w.alloc (.cells #[.int .i64 G, .int .i64 H] 23)) _) hv3
    simpa using this
  have hR : Cell3 (((w.alloc (.cells #[.int .i64 G, .int .i64 H] 23)).alloc (.cells #[.int .i64 A, .int .i64 B] 23)).alloc (.cells #[.bool false, .slice none 0 0, .slice none 0 0] 30)) (w.heap.size + 1 + 1) false none 0 0 none 0 0 := by
    have := Cell3.new ((w.alloc (.cells #[.int .i64 G, .int .i64 H] 23)).alloc (.cells #[.int .i64 A, .int .i64 B] 23)) false none none 0 0 0 0
    simpa using this
  go_enter Tryz.func16, Tryz.ntmps16
  refine pcSeq (fun Q0 n0 r0 _ => xa_p0 ?_)
  intros
  refine n0 _ _ (pcSeq (fun Q1 n1 r1 _ => xa_p1 s1 s2 hP ?_))
  intro m p k n p' k' n' t1 w1
  intros
  rename_i c1 f1 ht1 hb1
  refine n1 _ _ (xa_p2 (hR.below hb1) c1 f1 ?_)
  intro wx
  intros
  rename_i v1 v2 h3 v4
  have hb := bthen hV hb1
  exact xa_ret v1 ⟨m, p, k, n, p', k', n', rfl, v2, hb.trans (h3 _ (by omega) hb.size)⟩
set_option maxRecDepth 100000 in
set_option maxHeartbeats 12800000 in
theorem xg_p0 {x0 x3 x4 x5 x6 x7 x8 x9 x10 x11 x12 x13 x14 x15 x16 x17 x18 x19 x20 x21 x22 x23 x24 x25 x26 x27 : Value} {Q : Exit → Act → World → Prop} {W : World} {G H A B : Int} 
    (hN : Q .normal ⟨#[x0, .agg #[.int .i64 G, .int .i64 H], .agg #[.int .i64 A, .int .i64 B], x3, .pointer (some ⟨W.heap.size, 0, none⟩), .pointer (some ⟨(W.heap.size + 1), 0, none⟩), .pointer (some ⟨(W.heap.size + 1 + 1), 0, none⟩), .int .i64 0, x8, x9, x10, x11, x12, x13, x14, x15, x16, x17, x18, x19, x20, x21, x22, x23, x24, x25, x26, x27], []⟩ (((W.alloc (.cells #[.int .i64 G, .int .i64 H] 23)).alloc (.cells #[.int .i64 A, .int .i64 B] 23)).alloc (.cells #[.bool false, .slice none 0 0, .slice none 0 0] 30))) :
    Code.wp Tryz.prog ((Tryz.f6.body.bind (pcAt 0)).getD .skip) Q ⟨#[x0, .agg #[.int .i64 G, .int .i64 H], .agg #[.int .i64 A, .int .i64 B], x3, x4, x5, x6, x7, x8, x9, x10, x11, x12, x13, x14, x15, x16, x17, x18, x19, x20, x21, x22, x23, x24, x25, x26, x27], []⟩ W := by
  conv => arg 2; whnf
  have HN : Hid (Q .normal ⟨#[x0, .agg #[.int .i64 G, .int .i64 H], .agg #[.int .i64 A, .int .i64 B], x3, .pointer (some ⟨W.heap.size, 0, none⟩), .pointer (some ⟨(W.heap.size + 1), 0, none⟩), .pointer (some ⟨(W.heap.size + 1 + 1), 0, none⟩), .int .i64 0, x8, x9, x10, x11, x12, x13, x14, x15, x16, x17, x18, x19, x20, x21, x22, x23, x24, x25, x26, x27], []⟩ (((W.alloc (.cells #[.int .i64 G, .int .i64 H] 23)).alloc (.cells #[.int .i64 A, .int .i64 B] 23)).alloc (.cells #[.bool false, .slice none 0 0, .slice none 0 0] 30))) := hN
  clear hN
  go_wp2_with fail
  exact HN.out   

set_option maxRecDepth 100000 in
set_option maxHeartbeats 12800000 in
theorem xg_p1 {x1 x2 x3 x7 x8 x9 x10 x11 x12 x13 x14 x15 x16 x17 x18 x19 x20 x21 x22 x23 x24 x25 x26 x27 : Value} {Q : Exit → Act → World → Prop} {W : World} {g1 g2 R : Nat} {l G H A B : Int} (h1 : SVar W g1 G H) (h2 : SVar W g2 A B) (hr : Cell3 W R false none 0 0 none 0 0)
    (hN : ∀ (wx : World) (y7 y8 y9 y10 y11 y12 y13 y14 y15 y16 y17 : Value), GainArg l G H A B → Below W.heap.size W wx → Q .normal ⟨#[.int .i64 l, x1, x2, x3, .pointer (some ⟨g1, 0, none⟩), .pointer (some ⟨g2, 0, none⟩), .pointer (some ⟨R, 0, none⟩), y7, y8, y9, y10, y11, y12, y13, y14, y15, y16, y17, x18, x19, x20, x21, x22, x23, x24, x25, x26, x27], []⟩ wx)
    (hR : ∀ (wx : World) (y8 y9 y10 y11 y12 y13 y14 y15 y16 y17 : Value), ¬ GainArg l G H A B → Below W.heap.size W wx → Q .ret ⟨#[.int .i64 l, x1, x2, x3, .pointer (some ⟨g1, 0, none⟩), .pointer (some ⟨g2, 0, none⟩), .pointer (some ⟨R, 0, none⟩), .int .i64 1, y8, y9, y10, y11, y12, y13, y14, y15, y16, y17, x18, x19, x20, x21, x22, x23, x24, x25, x26, x27], []⟩ (((wx.setCell ⟨R, 0, none⟩ (.bool false)).setCell ⟨R, 1, none⟩ (.slice none 0 0)).setCell ⟨R, 2, none⟩ (.slice none 0 0))) :
    Code.wp Tryz.prog ((Tryz.f6.body.bind (pcAt 1)).getD .skip) Q ⟨#[.int .i64 l, x1, x2, x3, .pointer (some ⟨g1, 0, none⟩), .pointer (some ⟨g2, 0, none⟩), .pointer (some ⟨R, 0, none⟩), x7, x8, x9, x10, x11, x12, x13, x14, x15, x16, x17, x18, x19, x20, x21, x22, x23, x24, x25, x26, x27], []⟩ W := by
  conv => arg 2; whnf
  have HN : Hid (∀ (wx : World) (y7 y8 y9 y10 y11 y12 y13 y14 y15 y16 y17 : Value), GainArg l G H A B → Below W.heap.size W wx → Q .normal ⟨#[.int .i64 l, x1, x2, x3, .pointer (some ⟨g1, 0, none⟩), .pointer (some ⟨g2, 0, none⟩), .pointer (some ⟨R, 0, none⟩), y7, y8, y9, y10, y11, y12, y13, y14, y15, y16, y17, x18, x19, x20, x21, x22, x23, x24, x25, x26, x27], []⟩ wx) := hN
  have HR : Hid (∀ (wx : World) (y8 y9 y10 y11 y12 y13 y14 y15 y16 y17 : Value), ¬ GainArg l G H A B → Below W.heap.size W wx → Q .ret ⟨#[.int .i64 l, x1, x2, x3, .pointer (some ⟨g1, 0, none⟩), .pointer (some ⟨g2, 0, none⟩), .pointer (some ⟨R, 0, none⟩), .int .i64 1, y8, y9, y10, y11, y12, y13, y14, y15, y16, y17, x18, x19, x20, x21, x22, x23, x24, x25, x26, x27], []⟩ (((wx.setCell ⟨R, 0, none⟩ (.bool false)).setCell ⟨R, 1, none⟩ (.slice none 0 0)).setCell ⟨R, 2, none⟩ (.slice none 0 0))) := hR
  clear hN hR
  obtain ⟨x0, x1⟩ := h1.cell
  obtain ⟨y0, y1⟩ := h2.cell
  have HL := (show Hid _ from x17lam_any l W)
  have HC := (show Hid _ from x17split_any G H A B W)
  have HRc : Hid (∀ wx, Below W.heap.size W wx → Cell3 wx R false none 0 0 none 0 0) := fun wx hb => hr.below hb
  clear h1 h2 hr
  go_wp2_with fail
  refine Calls.mono HL.out ?_
  rintro e w1 ⟨a, rfl, ha, rfl⟩
  have HA : Hid (a = true ↔ LamOk l) := ha
  clear HL ha
  dsimp only
  cases a with
  | false =>
    obtain ⟨r0, r1, r2, f0, f1, f2⟩ := HRc.out _ (Below.refl _ _)
    have HX : Hid (¬ GainArg l G H A B) := fun e => by have := HA.out.2 e.1; cases this
    clear HN HC HRc x0 x1 y0 y1 HA
    go_wp2_with fail
    exact HR.out _ _ _ _ _ _ _ _ _ _ _ HX.out (Below.refl _ _)
  | true =>
  go_wp2_with fail
  refine Calls.mono HC.out ?_
  rintro e w2 ⟨b, rfl, hb, hb2⟩
  have HB : Hid ((b = true ↔ SumOk G H ∧ SumOk A B ∧ SumOk (A - G) (B - H)) ∧ Below W.heap.size W w2 ∧ LamOk l) := ⟨hb, hb2, HA.out.1 (by trivial)⟩
  obtain ⟨r0, r1, r2, f0, f1, f2⟩ := HRc.out _ hb2
  clear HC HRc HA hb hb2 x0 x1 y0 y1
  dsimp only
  cases b with
  | false =>
    have HX : Hid (¬ GainArg l G H A B) := fun e => by have := HB.out.1.2 e.2; cases this
    clear HN
    go_wp2_with fail
    exact HR.out _ _ _ _ _ _ _ _ _ _ _ HX.out HB.out.2.1
  | true =>
    have HX : Hid (GainArg l G H A B) := ⟨HB.out.2.2, HB.out.1.1 (by trivial)⟩
    clear HR r0 r1 r2 f0 f1 f2
    go_wp2_with fail
    exact HN.out _ _ _ _ _ _ _ _ _ _ _ _ HX.out HB.out.2.1

set_option maxRecDepth 100000 in
set_option maxHeartbeats 12800000 in
theorem xg_p3 {x1 x2 x3 x7 x8 x9 x10 x11 x12 x13 x14 x15 x16 x17 x18 x19 x20 x21 x22 x23 x24 x25 x26 x27 : Value} {Q : Exit → Act → World → Prop} {W : World} {g1 g2 R : Nat} {l G H A B : Int} (h1 : SVar W g1 G H) (h2 : SVar W g2 A B) (hr : Cell3 W R false none 0 0 none 0 0) (hP : GainArg l G H A B)
    (hR : ∀ (m : Bool) (p : Option Addr) (k n : Nat) (p' : Option Addr) (k' n' : Nat) (wx : World) (y18 y19 y20 y21 y22 y23 y24 y25 y26 y27 : Value), Cell3 wx R m p k n p' k' n' → FrAt17 wx m p k n p' k' n' (gainQ l G H A B) → (∀ B, B ≤ R → B ≤ W.heap.size → Below B W wx) → W.heap.size ≤ wx.heap.size → Q .ret ⟨#[.int .i64 l, x1, x2, x3, .pointer (some ⟨g1, 0, none⟩), .pointer (some ⟨g2, 0, none⟩), .pointer (some ⟨R, 0, none⟩), .int .i64 0, x8, x9, x10, x11, x12, x13, x14, x15, x16, x17, y18, y19, y20, y21, y22, y23, y24, y25, y26, y27], []⟩ wx) :
    Code.wp Tryz.prog ((Tryz.f6.body.bind (pcFrom 3)).getD .skip) Q ⟨#[.int .i64 l, x1, x2, x3, .pointer (some ⟨g1, 0, none⟩), .pointer (some ⟨g2, 0, none⟩), .pointer (some ⟨R, 0, none⟩), x7, x8, x9, x10, x11, x12, x13, x14, x15, x16, x17, x18, x19, x20, x21, x22, x23, x24, x25, x26, x27], []⟩ W := by
  conv => arg 2; whnf
  have HR : Hid (∀ (m : Bool) (p : Option Addr) (k n : Nat) (p' : Option Addr) (k' n' : Nat) (wx : World) (y18 y19 y20 y21 y22 y23 y24 y25 y26 y27 : Value), Cell3 wx R m p k n p' k' n' → FrAt17 wx m p k n p' k' n' (gainQ l G H A B) → (∀ B, B ≤ R → B ≤ W.heap.size → Below B W wx) → W.heap.size ≤ wx.heap.size → Q .ret ⟨#[.int .i64 l, x1, x2, x3, .pointer (some ⟨g1, 0, none⟩), .pointer (some ⟨g2, 0, none⟩), .pointer (some ⟨R, 0, none⟩), .int .i64 0, x8, x9, x10, x11, x12, x13, x14, x15, x16, x17, y18, y19, y20, y21, y22, y23, y24, y25, y26, y27], []⟩ wx) := hR
  clear hR
  have HS : Hid (∀ wx, Below W.heap.size W wx → wx.cell? ⟨g1, 0, none⟩ = some (.int .i64 G) ∧ wx.cell? ⟨g1, 1, none⟩ = some (.int .i64 H) ∧ wx.cell? ⟨g2, 0, none⟩ = some (.int .i64 A) ∧ wx.cell? ⟨g2, 1, none⟩ = some (.int .i64 B)) := fun wx h => ⟨bkeep h h1.cell.1 rfl, bkeep h h1.cell.2 rfl, bkeep h h2.cell.1 rfl, bkeep h h2.cell.2 rfl⟩
  obtain ⟨hL, hRt, hAl⟩ := gain_args17 hP
  have hg2 := gainQ_fits17 hP
  have hb2 := bothQ_fits17 hP
  rw [gainQ_sub17 hP] at HR hg2
  have HRc : Hid (∀ wx, Below W.heap.size W wx → Cell3 wx R false none 0 0 none 0 0) := fun wx hb => hr.below hb
  have HC1 : Hid (∀ wx, Below W.heap.size W wx → Calls Tryz.prog 16 #[.int .i64 l, .agg #[.int .i64 G, .int .i64 H], .agg #[.int .i64 A, .int .i64 B]] wx fun e w' => ∃ m p k n p' k' n', e = .returned (.agg #[.bool m, .slice p k n, .slice p' k' n']) ∧ Hid (FrAt17 w' m p k n p' k' n' (bothQ l G H A B)) ∧ Below W.heap.size W w' ∧ True) := fun wx h => (x17apart_any l G H A B wx hP).mono (fun e w' q => by
    obtain ⟨m, p, k, n, p', k', n', rfl, hF, hb⟩ := q
    exact ⟨m, p, k, n, p', k', n', rfl, hF, bthen h hb, trivial⟩)
  have HC2 : Hid (∀ wx m1 p1 k1 n1 p1' k1' n1', FrAt17 wx m1 p1 k1 n1 p1' k1' n1' (bothQ l G H A B) → Below W.heap.size W wx → Calls Tryz.prog 17 #[.int .i64 l, .agg #[.int .i64 A, .int .i64 B]] wx fun e w' => ∃ m p k n p' k' n', e = .returned (.agg #[.bool m, .slice p k n, .slice p' k' n']) ∧ Hid (FrAt17 w' m1 p1 k1 n1 p1' k1' n1' (bothQ l G H A B) ∧ FrAt17 w' m p k n p' k' n' (scoreQ l A B)) ∧ Below W.heap.size W w' ∧ True) := fun wx m1 p1 k1 n1 p1' k1' n1' f1 h => (x17score_any l A B wx hAl).mono (fun e w' q => by
    obtain ⟨m, p, k, n, p', k', n', rfl, hF, hb⟩ := q
    exact ⟨m, p, k, n, p', k', n', rfl, ⟨f1.below hb, hF⟩, bthen h hb, trivial⟩)
  have HC3 : Hid (∀ wx m1 p1 k1 n1 p1' k1' n1' m2 p2 k2 n2 p2' k2' n2', FrAt17 wx m1 p1 k1 n1 p1' k1' n1' (bothQ l G H A B) → FrAt17 wx m2 p2 k2 n2 p2' k2' n2' (scoreQ l A B) → Below W.heap.size W wx → Calls Tryz.prog 15 #[.agg #[.bool m1, .slice p1 k1 n1, .slice p1' k1' n1'], .agg #[.bool m2, .slice p2 k2 n2, .slice p2' k2' n2']] wx fun e w' => ∃ m p k n p' k' n', e = .returned (.tuple #[.agg #[.bool m, .slice p k n, .slice p' k' n'], .int .i64 0]) ∧ Hid (FrAt17 w' m p k n p' k' n' (subQ17 (bothQ l G H A B) (scoreQ l A B))) ∧ Below W.heap.size W w' ∧ Cell3 w' R false none 0 0 none 0 0) := fun wx m1 p1 k1 n1 p1' k1' n1' m2 p2 k2 n2 p2' k2' n2' f1 f2 h => (x17sub_any hb2 (score_fit17 hAl) hg2 f1 f2).mono (fun e w' q => by
    obtain ⟨m, p, k, n, p', k', n', rfl, hF, hb⟩ := q
    exact ⟨m, p, k, n, p', k', n', rfl, hF, bthen h hb, HRc.out _ (bthen h hb)⟩)
  have e1 : g1 ≠ R := fun e => by
    have h0 := h1.cell.1
    rw [e, hr.c0] at h0
    cases h0
  have e2 : g2 ≠ R := fun e => by
    have h0 := h2.cell.1
    rw [e, hr.c0] at h0
    cases h0
  have HSP : Hid (∀ (wx : World) (x y z : Value), Below W.heap.size W wx → (((wx.setCell ⟨R, 0, none⟩ x).setCell ⟨R, 1, none⟩ y).setCell ⟨R, 2, none⟩ z).cell? ⟨g1, 0, none⟩ = some (.int .i64 G) ∧ (((wx.setCell ⟨R, 0, none⟩ x).setCell ⟨R, 1, none⟩ y).setCell ⟨R, 2, none⟩ z).cell? ⟨g1, 1, none⟩ = some (.int .i64 H) ∧ (((wx.setCell ⟨R, 0, none⟩ x).setCell ⟨R, 1, none⟩ y).setCell ⟨R, 2, none⟩ z).cell? ⟨g2, 0, none⟩ = some (.int .i64 A) ∧ (((wx.setCell ⟨R, 0, none⟩ x).setCell ⟨R, 1, none⟩ y).setCell ⟨R, 2, none⟩ z).cell? ⟨g2, 1, none⟩ = some (.int .i64 B)) := fun wx x y z h => by
    obtain ⟨c1, c2, c3, c4⟩ := HS.out wx h
    exact ⟨(put3_other e1 x y z).trans c1, (put3_other e1 x y z).trans c2, (put3_other e2 x y z).trans c3, (put3_other e2 x y z).trans c4⟩
  obtain ⟨z0, z1, z2, z3⟩ := HS.out W (Below.refl _ _)
  clear e1 e2
  clear h1 h2 hP hL hRt hAl hb2 hg2 hr
  refine pcSeq (fun QQ nQ rQ eQ => ?_)
  refine wp_pcOnly ?_
  go_wp2_with fail
  go_region_held3 (fun w' => w'.cell? ⟨g1, 0, none⟩ = some (.int .i64 G) ∧ w'.cell? ⟨g1, 1, none⟩ = some (.int .i64 H) ∧ w'.cell? ⟨g2, 0, none⟩ = some (.int .i64 A) ∧ w'.cell? ⟨g2, 1, none⟩ = some (.int .i64 B)) (first | with_reducible exact HSP.out _ _ _ _ b7 | with_reducible exact HS.out _ (by repeat (first | exact Below.refl _ _ | assumption | refine bdr12 ?_ | refine bgr12 ?_ _ | (refine bst17 ?_ ?_ _; rotate_left; focus (first | (dsimp only; omega) | (simp; done) | (simp; omega) | fail)))) | go_keep | assumption) (first
    | (go_at_call 16; with_reducible refine Calls.mono (HC1.out _ (by repeat (first | exact Below.refl _ _ | assumption | refine bdr12 ?_ | refine bgr12 ?_ _ | (refine bst17 ?_ ?_ _; rotate_left; focus (first | (dsimp only; omega) | (simp; done) | (simp; omega) | fail))))) ?_; rintro e w5 ⟨m1, p1, k1, n1, p1', k1', n1', rfl, hF1, b5, -⟩; have y5 := b5.size)
    | (go_at_call 17; with_reducible refine Calls.mono (HC2.out _ m1 p1 k1 n1 p1' k1' n1' ?_ (by repeat (first | exact Below.refl _ _ | assumption | refine bdr12 ?_ | refine bgr12 ?_ _ | (refine bst17 ?_ ?_ _; rotate_left; focus (first | (dsimp only; omega) | (simp; done) | (simp; omega) | fail))))) ?_; (focus (repeat (first | with_reducible exact hF1.out | refine FrAt17.drew17 ?_ | refine FrAt17.grow17 ?_ _))); rintro e w6 ⟨m2, p2, k2, n2, p2', k2', n2', rfl, hF2, b6, -⟩; have y6 := b6.size)
    | (go_at_call 15; with_reducible refine Calls.mono (HC3.out _ m1 p1 k1 n1 p1' k1' n1' m2 p2 k2 n2 p2' k2' n2' ?_ ?_ (by repeat (first | exact Below.refl _ _ | assumption | refine bdr12 ?_ | refine bgr12 ?_ _ | (refine bst17 ?_ ?_ _; rotate_left; focus (first | (dsimp only; omega) | (simp; done) | (simp; omega) | fail))))) ?_; (focus (repeat (first | with_reducible exact hF2.out.1 | refine FrAt17.drew17 ?_ | refine FrAt17.grow17 ?_ _))); (focus (repeat (first | with_reducible exact hF2.out.2 | refine FrAt17.drew17 ?_ | refine FrAt17.grow17 ?_ _))); rintro e w7 ⟨m, p, k, n, p', k', n', rfl, hF, b7, ⟨r0, r1, r2, f0, f1, f2⟩⟩; have y7 := b7.size)
    | fail)
  all_goals
    have hr1 : Cell3 w7 R false none 0 0 none 0 0 := ⟨r0, r1, r2, f0, f1, f2⟩
    refine nQ _ _ ?_
    go_wp2_with fail
    exact HR.out _ _ _ _ _ _ _ _ _ _ _ _ _ _ _ _ _ _ (hr1.put m p p' k n k' n') (FrAt17.put17 hF.out hr1) (fun B h1 h2 => put3_below (b7.mono h2) h1 _ _ _) (by simpa using y7)

set_option maxRecDepth 100000 in
theorem xg_ret {x0 x1 x2 x3 x4 x5 x8 x9 x10 x11 x12 x13 x14 x15 x16 x17 x18 x19 x20 x21 x22 x23 x24 x25 x26 x27 : Value} {R : Nat} {m : Bool} {p p' : Option Addr} {k n k' n' : Nat} {er : Int} {post : Ending → World → Prop} {W : World} (hr : Cell3 W R m p k n p' k' n') (h : post (.returned (.tuple #[.agg #[.bool m, .slice p k n, .slice p' k' n'], .int .i64 er])) W) : bodyPost Tryz.prog Tryz.f6 post .ret ⟨#[x0, x1, x2, x3, x4, x5, .pointer (some ⟨R, 0, none⟩), .int .i64 er, x8, x9, x10, x11, x12, x13, x14, x15, x16, x17, x18, x19, x20, x21, x22, x23, x24, x25, x26, x27], []⟩ W := by
  obtain ⟨r0, r1, r2, -⟩ := hr
  exact bodyPost_ret (v := .tuple #[.agg #[.bool m, .slice p k n, .slice p' k' n'], .int .i64 er]) (by simp [results, Tryz.results6, go_sem, r0, r1, r2]) rfl h

set_option maxRecDepth 100000 in
set_option maxHeartbeats 3200000 in
theorem gai_ok17 : GaiOk17 := by
  intro l G H A B w _ _ _ _ _
  have hv1 := balloc w (.cells #[.int .i64 G, .int .i64 H] 23)
  have hv2 := balloc (w.alloc (.cells #[.int .i64 G, .int .i64 H] 23)) (.cells #[.int .i64 A, .int .i64 B] 23)
  have hv3 := balloc ((w.alloc (.cells #[.int .i64 G, .int .i64 H] 23)).alloc (.cells #[.int .i64 A, .int .i64 B] 23)) (.cells #[.bool false, .slice none 0 0, .slice none 0 0] 30)
  have hV := bthen (bthen hv1 hv2) hv3
  have s1 : SVar (((w.alloc (.cells #[.int .i64 G, .int .i64 H] 23)).alloc (.cells #[.int .i64 A, .int .i64 B] 23)).alloc (.cells #[.bool false, .slice none 0 0, .slice none 0 0] 30)) w.heap.size G H := SVar.below (SVar.below (heap_alloc_new w _) hv2) hv3
  have s2 : SVar (((w.alloc (.cells #[.int .i64 G, .int .i64 H] 23)).alloc (.cells #[.int .i64 A, .int .i64 B] 23)).alloc (.cells #[.bool false, .slice none 0 0, .slice none 0 0] 30)) (w.heap.size + 1) A B := by
    have := SVar.below (W := ((w.alloc (.cells #[.int .i64 G, .int .i64 H] 23)).alloc (.cells #[.int .i64 A, .int .i64 B] 23))) (g := (w.alloc (.cells #[.int .i64 G, .int .i64 H] 23)).heap.size) (G := A) (H := B) (heap_alloc_new (w.alloc (.cells #[.int .i64 G, .int .i64 H] 23)) _) hv3
    simpa using this
  have hR : Cell3 (((w.alloc (.cells #[.int .i64 G, .int .i64 H] 23)).alloc (.cells #[.int .i64 A, .int .i64 B] 23)).alloc (.cells #[.bool false, .slice none 0 0, .slice none 0 0] 30)) (w.heap.size + 1 + 1) false none 0 0 none 0 0 := by
    have := Cell3.new ((w.alloc (.cells #[.int .i64 G, .int .i64 H] 23)).alloc (.cells #[.int .i64 A, .int .i64 B] 23)) false none none 0 0 0 0
    simpa using this
  have hBad : ∀ W, Cell3 W (w.heap.size + 1 + 1) false none 0 0 none 0 0 → Below w.heap.size w W → ¬ GainArg l G H A B → Cell3 (((W.setCell ⟨w.heap.size + 1 + 1, 0, none⟩ (.bool false)).setCell ⟨w.heap.size + 1 + 1, 1, none⟩ (.slice none 0 0)).setCell ⟨w.heap.size + 1 + 1, 2, none⟩ (.slice none 0 0)) (w.heap.size + 1 + 1) false none 0 0 none 0 0 ∧ FT17 (GainArg l G H A B) (gainQ l G H A B) w (.returned (.tuple #[.agg #[.bool false, .slice none 0 0, .slice none 0 0], .int .i64 1])) (((W.setCell ⟨w.heap.size + 1 + 1, 0, none⟩ (.bool false)).setCell ⟨w.heap.size + 1 + 1, 1, none⟩ (.slice none 0 0)).setCell ⟨w.heap.size + 1 + 1, 2, none⟩ (.slice none 0 0)) := fun W h hb hn =>
    ⟨h.put false none none 0 0 0 0, fun e => absurd e hn, fun _ => ⟨false, none, 0, 0, none, 0, 0, [], [], 1, rfl, ⟨Nums.nil _, Nums.nil _⟩, ToldF.bad rfl, put3_below hb (g := w.heap.size + 1 + 1) (by omega) _ _ _⟩⟩
  go_enter Tryz.func6, Tryz.ntmps6
  refine pcSeq (fun Q0 n0 r0 _ => xg_p0 ?_)
  intros
  refine n0 _ _ (pcSeq (fun Q1 n1 r1 _ => xg_p1 s1 s2 hR ?_ ?_))
  · intro w1
    intros
    rename_i hP hb1
    refine n1 _ _ (xg_p3 (s1.below hb1) (s2.below hb1) (hR.below hb1) hP ?_)
    intro m p k n p' k' n' wx
    intros
    rename_i v1 v2 h3 v4
    have hb := bthen hV hb1
    obtain ⟨us, vs, u1, u2, u3, u4⟩ := v2
    exact xg_ret v1 ⟨fun _ => ⟨m, p, k, n, p', k', n', us, vs, 0, rfl, ⟨u1, u2⟩, ToldF.good rfl u3 u4, hb.trans (h3 _ (by omega) hb.size)⟩, fun e => absurd hP e⟩
  · intro w1
    intros
    rename_i hno hb1
    obtain ⟨z1, z2⟩ := hBad w1 (hR.below hb1) (bthen hV hb1) hno
    exact r1 _ _ (xg_ret z1 z2)
set_option maxRecDepth 100000 in
set_option maxHeartbeats 12800000 in
theorem xe_p0 {x0 x1 x3 x4 x5 x6 x7 x8 x9 x10 x11 x12 x13 x14 x15 x16 x17 x18 x19 x20 x21 x22 x23 x24 x25 x26 x27 : Value} {Q : Exit → Act → World → Prop} {W : World} {A B : Int} 
    (hN : Q .normal ⟨#[x0, x1, .agg #[.int .i64 A, .int .i64 B], x3, x4, .pointer (some ⟨W.heap.size, 0, none⟩), .pointer (some ⟨(W.heap.size + 1), 0, none⟩), x7, x8, x9, x10, x11, x12, x13, x14, x15, x16, x17, x18, x19, x20, x21, x22, x23, x24, x25, x26, x27], []⟩ ((W.alloc (.cells #[.int .i64 A, .int .i64 B] 23)).alloc (.cells #[.bool false, .slice none 0 0, .slice none 0 0] 30))) :
    Code.wp Tryz.prog ((Tryz.f26.body.bind (pcAt 0)).getD .skip) Q ⟨#[x0, x1, .agg #[.int .i64 A, .int .i64 B], x3, x4, x5, x6, x7, x8, x9, x10, x11, x12, x13, x14, x15, x16, x17, x18, x19, x20, x21, x22, x23, x24, x25, x26, x27], []⟩ W := by
  conv => arg 2; whnf
  have HN : Hid (Q .normal ⟨#[x0, x1, .agg #[.int .i64 A, .int .i64 B], x3, x4, .pointer (some ⟨W.heap.size, 0, none⟩), .pointer (some ⟨(W.heap.size + 1), 0, none⟩), x7, x8, x9, x10, x11, x12, x13, x14, x15, x16, x17, x18, x19, x20, x21, x22, x23, x24, x25, x26, x27], []⟩ ((W.alloc (.cells #[.int .i64 A, .int .i64 B] 23)).alloc (.cells #[.bool false, .slice none 0 0, .slice none 0 0] 30))) := hN
  clear hN
  go_wp2_with fail
  exact HN.out   

set_option maxRecDepth 100000 in
set_option maxHeartbeats 12800000 in
theorem xe_p1 {x0 x2 x3 x4 x5 x6 x7 x8 x9 x10 x11 x12 x13 x14 x15 x16 x17 x18 x19 x20 x21 x22 x23 x24 x25 x26 x27 : Value} {Q : Exit → Act → World → Prop} {W : World} {γ : Int} (hγ : 0 ≤ γ ∧ γ ≤ 1048576)
    (hN : ∀ (m : Bool) (p : Option Addr) (k n : Nat) (p' : Option Addr) (k' n' : Nat) (s : Nat) (wx : World) (y8 y11 y12 y13 y14 y15 y16 y17 y18 : Value), Cell3 wx s m p k n p' k' n' → FrAt17 wx m p k n p' k' n' (γ, 1) → W.heap.size ≤ s → Below W.heap.size W wx → Q .normal ⟨#[x0, .int .i64 γ, x2, x3, x4, x5, x6, .pointer (some ⟨s, 0, none⟩), y8, x9, x10, y11, y12, y13, y14, y15, y16, y17, y18, x19, x20, x21, x22, x23, x24, x25, x26, x27], []⟩ wx) :
    Code.wp Tryz.prog ((Tryz.f26.body.bind (pcAt 1)).getD .skip) Q ⟨#[x0, .int .i64 γ, x2, x3, x4, x5, x6, x7, x8, x9, x10, x11, x12, x13, x14, x15, x16, x17, x18, x19, x20, x21, x22, x23, x24, x25, x26, x27], []⟩ W := by
  conv => arg 2; whnf
  have HN : Hid (∀ (m : Bool) (p : Option Addr) (k n : Nat) (p' : Option Addr) (k' n' : Nat) (s : Nat) (wx : World) (y8 y11 y12 y13 y14 y15 y16 y17 y18 : Value), Cell3 wx s m p k n p' k' n' → FrAt17 wx m p k n p' k' n' (γ, 1) → W.heap.size ≤ s → Below W.heap.size W wx → Q .normal ⟨#[x0, .int .i64 γ, x2, x3, x4, x5, x6, .pointer (some ⟨s, 0, none⟩), y8, x9, x10, y11, y12, y13, y14, y15, y16, y17, y18, x19, x20, x21, x22, x23, x24, x25, x26, x27], []⟩ wx) := hN
  clear hN
  have b1 : (-9223372036854775808 ≤ γ ∧ γ < 9223372036854775808) := by omega
  have b2 : (-9223372036854775808 ≤ (1 : Int) ∧ (1 : Int) < 9223372036854775808) := by decide
  have HO1 := (show Hid _ from x17whole_any γ W b1)
  have HO2 : Hid (∀ wx, Calls Tryz.prog 42 #[.int .i64 1] wx fun e w' => ∃ p a l k, e = .returned (.agg #[.bool p, .slice a l k]) ∧ WAt w' p a l k 1 ∧ Below wx.heap.size wx w') := fun wx => x17whole_any 1 wx b2
  have HG : Hid (0 ≤ γ ∧ γ ≤ 1048576) := hγ
  clear hγ b1 b2
  go_wp2_with fail
  refine Calls.mono HO1.out ?_
  rintro e w1 ⟨q1, a1, n1, c1, rfl, hw1, hb1⟩
  have HN1 : Hid (WAt w1 q1 a1 n1 c1 γ ∧ Below W.heap.size W w1) := ⟨hw1, hb1⟩
  clear HO1 hw1 hb1
  dsimp only
  go_wp2_with fail
  refine Calls.mono (HO2.out _) ?_
  rintro e w2 ⟨q2, a2, n2, c2, rfl, hw2, hb2⟩
  have HM := (show Hid _ from x17make_any (gam_fit17 HG.out) (HN1.out.1.below hb2) hw2)
  have HB2 : Hid (Below W.heap.size W w2) := bthen HN1.out.2 hb2
  clear HO2 HN1 HG hw2 hb2
  dsimp only
  go_wp2_with fail
  refine Calls.mono HM.out ?_
  rintro e w3 ⟨m, p, k, n, p', k', n', rfl, hF, hb⟩
  have hb' := bthen HB2.out hb
  have HK : Hid (Cell3 (w3.alloc (.cells #[.bool m, .slice p k n, .slice p' k' n'] 30)) w3.heap.size m p k n p' k' n' ∧ FrAt17 (w3.alloc (.cells #[.bool m, .slice p k n, .slice p' k' n'] 30)) m p k n p' k' n' (γ, 1) ∧ W.heap.size ≤ w3.heap.size ∧ Below W.heap.size W (w3.alloc (.cells #[.bool m, .slice p k n, .slice p' k' n'] 30))) := ⟨Cell3.new w3 m p p' k n k' n', hF.below (balloc _ _), hb'.size, bthen hb' (balloc _ _)⟩
  clear HM HB2 hF hb hb'
  dsimp only
  go_wp2_with fail
  exact HN.out _ _ _ _ _ _ _ _ _ _ _ _ _ _ _ _ _ _ HK.out.1 HK.out.2.1 HK.out.2.2.1 HK.out.2.2.2

set_option maxRecDepth 100000 in
set_option maxHeartbeats 12800000 in
theorem xe_p2 {x1 x2 x3 x4 x6 x8 x9 x10 x11 x12 x13 x14 x15 x16 x17 x18 x19 x20 x21 x22 x23 x24 x25 x26 x27 : Value} {Q : Exit → Act → World → Prop} {W : World} {g t : Nat} {l γ A B : Int} {m2 : Bool} {p2 : Option Addr} {k2 n2 : Nat} {p2' : Option Addr} {k2' n2' : Nat} (hg : SVar W g A B) (ht : Cell3 W t m2 p2 k2 n2 p2' k2' n2') (hf : FrAt17 W m2 p2 k2 n2 p2' k2' n2' (γ, 1)) (hP : ScoreArg l A B) (hγ : 0 ≤ γ ∧ γ ≤ 1048576)
    (hN : ∀ (m : Bool) (p : Option Addr) (k n : Nat) (p' : Option Addr) (k' n' : Nat) (s : Nat) (wx : World) (y10 y19 y20 y21 y22 y23 y24 y25 y26 : Value), Cell3 wx s m p k n p' k' n' → FrAt17 wx m p k n p' k' n' (enoughQ l γ A B) → W.heap.size ≤ s → Below W.heap.size W wx → Q .normal ⟨#[.int .i64 l, x1, x2, x3, x4, .pointer (some ⟨g, 0, none⟩), x6, .pointer (some ⟨t, 0, none⟩), x8, .pointer (some ⟨s, 0, none⟩), y10, x11, x12, x13, x14, x15, x16, x17, x18, y19, y20, y21, y22, y23, y24, y25, y26, x27], []⟩ wx) :
    Code.wp Tryz.prog ((Tryz.f26.body.bind (pcAt 2)).getD .skip) Q ⟨#[.int .i64 l, x1, x2, x3, x4, .pointer (some ⟨g, 0, none⟩), x6, .pointer (some ⟨t, 0, none⟩), x8, x9, x10, x11, x12, x13, x14, x15, x16, x17, x18, x19, x20, x21, x22, x23, x24, x25, x26, x27], []⟩ W := by
  conv => arg 2; whnf
  have HN : Hid (∀ (m : Bool) (p : Option Addr) (k n : Nat) (p' : Option Addr) (k' n' : Nat) (s : Nat) (wx : World) (y10 y19 y20 y21 y22 y23 y24 y25 y26 : Value), Cell3 wx s m p k n p' k' n' → FrAt17 wx m p k n p' k' n' (enoughQ l γ A B) → W.heap.size ≤ s → Below W.heap.size W wx → Q .normal ⟨#[.int .i64 l, x1, x2, x3, x4, .pointer (some ⟨g, 0, none⟩), x6, .pointer (some ⟨t, 0, none⟩), x8, .pointer (some ⟨s, 0, none⟩), y10, x11, x12, x13, x14, x15, x16, x17, x18, y19, y20, y21, y22, y23, y24, y25, y26, x27], []⟩ wx) := hN
  clear hN
  have HS : Hid (∀ wx, Below W.heap.size W wx → wx.cell? ⟨g, 0, none⟩ = some (.int .i64 A) ∧ wx.cell? ⟨g, 1, none⟩ = some (.int .i64 B) ∧ wx.cell? ⟨t, 0, none⟩ = some (.bool m2) ∧ wx.cell? ⟨t, 1, none⟩ = some (.slice p2 k2 n2) ∧ wx.cell? ⟨t, 2, none⟩ = some (.slice p2' k2' n2')) := fun wx h => ⟨bkeep h hg.cell.1 rfl, bkeep h hg.cell.2 rfl, bkeep h ht.c0 rfl, bkeep h ht.c1 rfl, bkeep h ht.c2 rfl⟩
  have HC1 : Hid (∀ wx, Below W.heap.size W wx → Calls Tryz.prog 17 #[.int .i64 l, .agg #[.int .i64 A, .int .i64 B]] wx fun e w' => ∃ m p k n p' k' n', e = .returned (.agg #[.bool m, .slice p k n, .slice p' k' n']) ∧ Hid (FrAt17 w' m p k n p' k' n' (scoreQ l A B)) ∧ Below W.heap.size W w' ∧ (∀ g', Cell3 wx g' false none 0 0 none 0 0 → Cell3 w' g' false none 0 0 none 0 0)) := fun wx h => (x17score_any l A B wx hP).mono (fun e w' q => by
    obtain ⟨m, p, k, n, p', k', n', rfl, hF, hb⟩ := q
    exact ⟨m, p, k, n, p', k', n', rfl, hF, bthen h hb, fun g' z => z.below hb⟩)
  have HC2 : Hid (∀ wx m1 p1 k1 n1 p1' k1' n1', FrAt17 wx m1 p1 k1 n1 p1' k1' n1' (scoreQ l A B) → Below W.heap.size W wx → Calls Tryz.prog 40 #[.agg #[.bool m1, .slice p1 k1 n1, .slice p1' k1' n1'], .agg #[.bool m2, .slice p2 k2 n2, .slice p2' k2' n2']] wx fun e w' => ∃ m p k n p' k' n', e = .returned (.tuple #[.agg #[.bool m, .slice p k n, .slice p' k' n'], .int .i64 0]) ∧ Hid (FrAt17 w' m p k n p' k' n' (enoughQ l γ A B)) ∧ Below W.heap.size W w' ∧ (∀ g', Cell3 wx g' false none 0 0 none 0 0 → Cell3 w' g' false none 0 0 none 0 0)) := fun wx m1 p1 k1 n1 p1' k1' n1' f1 h => (x17add_any (score_fit17 hP) (gam_fit17 hγ) (enough_fit17 hP hγ) f1 (hf.below h)).mono (fun e w' q => by
    obtain ⟨m, p, k, n, p', k', n', rfl, hF, hb⟩ := q
    exact ⟨m, p, k, n, p', k', n', rfl, hF, bthen h hb, fun g' z => z.below hb⟩)
  obtain ⟨z0, z1, z2, z3, z4⟩ := HS.out W (Below.refl _ _)
  clear hg ht hf hP hγ
  refine wp_pcOnly ?_
  go_wp2_with fail
  go_region_held3 (fun w' => w'.cell? ⟨g, 0, none⟩ = some (.int .i64 A) ∧ w'.cell? ⟨g, 1, none⟩ = some (.int .i64 B) ∧ w'.cell? ⟨t, 0, none⟩ = some (.bool m2) ∧ w'.cell? ⟨t, 1, none⟩ = some (.slice p2 k2 n2) ∧ w'.cell? ⟨t, 2, none⟩ = some (.slice p2' k2' n2')) (first | with_reducible exact HS.out _ (by repeat (first | exact Below.refl _ _ | assumption | refine bdr12 ?_ | refine bgr12 ?_ _ | (refine bst17 ?_ ?_ _; rotate_left; focus (first | (dsimp only; omega) | (simp; done) | (simp; omega) | fail)))) | go_keep | assumption) (first
    | (go_at_call 17; with_reducible refine Calls.mono (HC1.out _ (by repeat (first | exact Below.refl _ _ | assumption | refine bdr12 ?_ | refine bgr12 ?_ _ | (refine bst17 ?_ ?_ _; rotate_left; focus (first | (dsimp only; omega) | (simp; done) | (simp; omega) | fail))))) ?_; rintro e w5 ⟨m1, p1, k1, n1, p1', k1', n1', rfl, hF1, b5, k5⟩; have y5 := b5.size; (first | (have T5 : Cell3 w5 W.heap.size false none 0 0 none 0 0 := k5 _ (Cell3.drew17 (Cell3.new W false none none 0 0 0 0))) | (have T5 : Cell3 w5 W.heap.size false none 0 0 none 0 0 := k5 _ (Cell3.new W false none none 0 0 0 0)) | skip))
    | (go_at_call 40; with_reducible refine Calls.mono (HC2.out _ m1 p1 k1 n1 p1' k1' n1' ?_ (by repeat (first | exact Below.refl _ _ | assumption | refine bdr12 ?_ | refine bgr12 ?_ _ | (refine bst17 ?_ ?_ _; rotate_left; focus (first | (dsimp only; omega) | (simp; done) | (simp; omega) | fail))))) ?_; (focus (repeat (first | with_reducible exact hF1.out | refine FrAt17.drew17 ?_ | refine FrAt17.grow17 ?_ _))); rintro e w7 ⟨m, p, k, n, p', k', n', rfl, hF, b7, k7⟩; have y7 := b7.size; (first | (have T7 : Cell3 w7 W.heap.size false none 0 0 none 0 0 := k7 _ T5) | (have T7 : Cell3 w7 W.heap.size false none 0 0 none 0 0 := k7 _ (Cell3.drew17 T5)) | (have T7 : Cell3 w7 w5.heap.size false none 0 0 none 0 0 := k7 _ (Cell3.drew17 (Cell3.new w5 false none none 0 0 0 0))) | (have T7 : Cell3 w7 w5.heap.size false none 0 0 none 0 0 := k7 _ (Cell3.new w5 false none none 0 0 0 0)) | skip); (first | (have U7 := T7; obtain ⟨C0, C1, C2, F0, F1, F2⟩ := U7) | skip))
    | fail)
  all_goals
    first
      | exact HN.out _ _ _ _ _ _ _ _ _ _ _ _ _ _ _ _ _ _ (Cell3.new w7 m p p' k n k' n') (hF.out.below (balloc _ _)) y7 (bthen b7 (balloc _ _))
      | (obtain ⟨v1, v2, v3, v4⟩ := fin17 T7 b7 (by omega) hF.out
         exact HN.out _ _ _ _ _ _ _ _ _ _ _ _ _ _ _ _ _ _ v1 v2 v3 v4)
      | fail

set_option maxRecDepth 100000 in
set_option maxHeartbeats 12800000 in
theorem xe_p3 {x0 x1 x2 x3 x4 x5 x7 x8 x10 x11 x12 x13 x14 x15 x16 x17 x18 x19 x20 x21 x22 x23 x24 x25 x26 x27 : Value} {Q : Exit → Act → World → Prop} {W : World} {R s : Nat} {q : Q17} {m : Bool} {p : Option Addr} {k n : Nat} {p' : Option Addr} {k' n' : Nat} (hr : Cell3 W R false none 0 0 none 0 0) (hs : Cell3 W s m p k n p' k' n') (hf : FrAt17 W m p k n p' k' n' q)
    (hR : ∀ (wx : World) (y27 : Value), Cell3 wx R m p k n p' k' n' → FrAt17 wx m p k n p' k' n' q → (∀ B, B ≤ R → B ≤ W.heap.size → Below B W wx) → W.heap.size ≤ wx.heap.size → Q .ret ⟨#[x0, x1, x2, x3, x4, x5, .pointer (some ⟨R, 0, none⟩), x7, x8, .pointer (some ⟨s, 0, none⟩), x10, x11, x12, x13, x14, x15, x16, x17, x18, x19, x20, x21, x22, x23, x24, x25, x26, y27], []⟩ wx) :
    Code.wp Tryz.prog ((Tryz.f26.body.bind (pcFrom 3)).getD .skip) Q ⟨#[x0, x1, x2, x3, x4, x5, .pointer (some ⟨R, 0, none⟩), x7, x8, .pointer (some ⟨s, 0, none⟩), x10, x11, x12, x13, x14, x15, x16, x17, x18, x19, x20, x21, x22, x23, x24, x25, x26, x27], []⟩ W := by
  conv => arg 2; whnf
  have HR : Hid (∀ (wx : World) (y27 : Value), Cell3 wx R m p k n p' k' n' → FrAt17 wx m p k n p' k' n' q → (∀ B, B ≤ R → B ≤ W.heap.size → Below B W wx) → W.heap.size ≤ wx.heap.size → Q .ret ⟨#[x0, x1, x2, x3, x4, x5, .pointer (some ⟨R, 0, none⟩), x7, x8, .pointer (some ⟨s, 0, none⟩), x10, x11, x12, x13, x14, x15, x16, x17, x18, x19, x20, x21, x22, x23, x24, x25, x26, y27], []⟩ wx) := hR
  clear hR
  have HK : Hid (Cell3 (((W.setCell ⟨R, 0, none⟩ (.bool m)).setCell ⟨R, 1, none⟩ (.slice p k n)).setCell ⟨R, 2, none⟩ (.slice p' k' n')) R m p k n p' k' n' ∧ FrAt17 (((W.setCell ⟨R, 0, none⟩ (.bool m)).setCell ⟨R, 1, none⟩ (.slice p k n)).setCell ⟨R, 2, none⟩ (.slice p' k' n')) m p k n p' k' n' q ∧ (∀ B, B ≤ R → B ≤ W.heap.size → Below B W (((W.setCell ⟨R, 0, none⟩ (.bool m)).setCell ⟨R, 1, none⟩ (.slice p k n)).setCell ⟨R, 2, none⟩ (.slice p' k' n'))) ∧ W.heap.size ≤ (((W.setCell ⟨R, 0, none⟩ (.bool m)).setCell ⟨R, 1, none⟩ (.slice p k n)).setCell ⟨R, 2, none⟩ (.slice p' k' n')).heap.size) := ⟨hr.put m p p' k n k' n', FrAt17.put17 hf hr, fun B h1 h2 => put3_below ((Below.refl _ W).mono h2) h1 _ _ _, by simp⟩
  obtain ⟨r0, r1, r2, f0, f1, f2⟩ := hr
  obtain ⟨x0, x1, x2, -, -, -⟩ := hs
  clear hf
  go_wp2_with fail
  exact HR.out _ _ HK.out.1 HK.out.2.1 HK.out.2.2.1 HK.out.2.2.2

set_option maxRecDepth 100000 in
theorem xe_ret {x0 x1 x2 x3 x4 x5 x7 x8 x9 x10 x11 x12 x13 x14 x15 x16 x17 x18 x19 x20 x21 x22 x23 x24 x25 x26 x27 : Value} {R : Nat} {m : Bool} {p p' : Option Addr} {k n k' n' : Nat} {post : Ending → World → Prop} {W : World} (hr : Cell3 W R m p k n p' k' n') (h : post (.returned (.agg #[.bool m, .slice p k n, .slice p' k' n'])) W) : bodyPost Tryz.prog Tryz.f26 post .ret ⟨#[x0, x1, x2, x3, x4, x5, .pointer (some ⟨R, 0, none⟩), x7, x8, x9, x10, x11, x12, x13, x14, x15, x16, x17, x18, x19, x20, x21, x22, x23, x24, x25, x26, x27], []⟩ W := by
  obtain ⟨r0, r1, r2, -⟩ := hr
  exact bodyPost_ret (v := .agg #[.bool m, .slice p k n, .slice p' k' n']) (by simp [results, Tryz.results26, go_sem, r0, r1, r2]) rfl h

set_option maxRecDepth 100000 in
set_option maxHeartbeats 3200000 in
theorem x17enough_any (l γ A B : Int) (w : World) (hP : ScoreArg l A B) (hγ : 0 ≤ γ ∧ γ ≤ 1048576) : Calls Tryz.prog 26 #[.int .i64 l, .int .i64 γ, .agg #[.int .i64 A, .int .i64 B]] w fun e w' => Fr17T (enoughQ l γ A B) w e w' := by
  have hv1 := balloc w (.cells #[.int .i64 A, .int .i64 B] 23)
  have hv3 := balloc (w.alloc (.cells #[.int .i64 A, .int .i64 B] 23)) (.cells #[.bool false, .slice none 0 0, .slice none 0 0] 30)
  have hV := bthen hv1 hv3
  have s1 : SVar ((w.alloc (.cells #[.int .i64 A, .int .i64 B] 23)).alloc (.cells #[.bool false, .slice none 0 0, .slice none 0 0] 30)) w.heap.size A B := SVar.below (heap_alloc_new w _) hv3
  have hR : Cell3 ((w.alloc (.cells #[.int .i64 A, .int .i64 B] 23)).alloc (.cells #[.bool false, .slice none 0 0, .slice none 0 0] 30)) (w.heap.size + 1) false none 0 0 none 0 0 := by
    have := Cell3.new (w.alloc (.cells #[.int .i64 A, .int .i64 B] 23)) false none none 0 0 0 0
    simpa using this
  go_enter Tryz.func26, Tryz.ntmps26
  refine pcSeq (fun Q0 n0 r0 _ => xe_p0 ?_)
  intros
  refine n0 _ _ (pcSeq (fun Q1 n1 r1 _ => xe_p1 hγ ?_))
  intro m2 p2 k2 n2 p2' k2' n2' t1 w1
  intros
  rename_i c1 f1 ht1 hb1
  refine n1 _ _ (pcSeq (fun Q2 n2 r2 _ => xe_p2 (s1.below hb1) c1 f1 hP hγ ?_))
  intro m p k n p' k' n' t2 w2
  intros
  rename_i c2 f2 ht2 hb2
  refine n2 _ _ (xe_p3 (hR.below (bthen hb1 hb2)) c2 f2 ?_)
  intro wx
  intros
  rename_i v1 v2 h3 v4
  have hb := bthen hV (bthen hb1 hb2)
  exact xe_ret v1 ⟨m, p, k, n, p', k', n', rfl, v2, hb.trans (h3 _ (by omega) hb.size)⟩
end Go.Proofs.YtchmlfjjgehbkaaGreat

/-
  What rows are worth in one leaf: score, Score. Written by mk/x17.py.
-/
import Derived.Test.YtchmlfjjgehbkaaX17A
import Derived.Test.YtchmlfjjgehbkaaX17B
import Derived.Test.YtchmlfjjgehbkaaPieces
import Derived.Deep.RegionHeld3
namespace Go.Proofs.Ytchmlfjjgehbkaa
open Go.RowKit

attribute [local go_sem] run_mag17
theorem wat_put17 {w : World} {p : Bool} {a : Option Addr} {l k : Nat} {x : Int} (h : WAt w p a l k x) {g : Nat} {q : Bool} {b : Option Addr} {l2 k2 : Nat} (hg : ICell17 w g q b l2 k2) {u v : Value} : WAt ((w.setCell ⟨g, 0, none⟩ u).setCell ⟨g, 1, none⟩ v) p a l k x := by
  obtain ⟨xs, h1, h2⟩ := h
  exact ⟨xs, h1.put2 hg.c0 hg.c1 _ _, h2⟩
set_option maxRecDepth 100000 in
set_option maxHeartbeats 12800000 in
theorem xs_p0 {x0 x2 x3 x4 x5 x6 x7 x8 x9 x10 x11 x12 x13 x14 x15 x16 x17 x18 x19 x20 x21 x22 x23 x24 x25 x26 x27 x28 x29 x30 : Value} {Q : Exit → Act → World → Prop} {W : World} {G H : Int} 
    (hN : Q .normal ⟨#[x0, .agg #[.int .i64 G, .int .i64 H], x2, .pointer (some ⟨W.heap.size, 0, none⟩), .pointer (some ⟨(W.heap.size + 1), 0, none⟩), x5, x6, x7, x8, x9, x10, x11, x12, x13, x14, x15, x16, x17, x18, x19, x20, x21, x22, x23, x24, x25, x26, x27, x28, x29, x30], []⟩ ((W.alloc (.cells #[.int .i64 G, .int .i64 H] 23)).alloc (.cells #[.bool false, .slice none 0 0, .slice none 0 0] 30))) :
    Code.wp Try.prog ((Try.f14.body.bind (pcAt 0)).getD .skip) Q ⟨#[x0, .agg #[.int .i64 G, .int .i64 H], x2, x3, x4, x5, x6, x7, x8, x9, x10, x11, x12, x13, x14, x15, x16, x17, x18, x19, x20, x21, x22, x23, x24, x25, x26, x27, x28, x29, x30], []⟩ W := by
  conv => arg 2; whnf
  have HN : Hid (Q .normal ⟨#[x0, .agg #[.int .i64 G, .int .i64 H], x2, .pointer (some ⟨W.heap.size, 0, none⟩), .pointer (some ⟨(W.heap.size + 1), 0, none⟩), x5, x6, x7, x8, x9, x10, x11, x12, x13, x14, x15, x16, x17, x18, x19, x20, x21, x22, x23, x24, x25, x26, x27, x28, x29, x30], []⟩ ((W.alloc (.cells #[.int .i64 G, .int .i64 H] 23)).alloc (.cells #[.bool false, .slice none 0 0, .slice none 0 0] 30))) := hN
  clear hN
  go_wp2_with fail
  exact HN.out   

set_option maxRecDepth 100000 in
set_option maxHeartbeats 12800000 in
theorem xs_p1 {x0 x1 x2 x4 x5 x6 x7 x8 x9 x10 x11 x12 x13 x14 x15 x16 x17 x18 x19 x20 x21 x22 x23 x24 x25 x26 x27 x28 x29 x30 : Value} {Q : Exit → Act → World → Prop} {W : World} {g : Nat} {G H : Int} (hg : SVar W g G H) (hG1 : -1099511627776 ≤ G) (hG2 : G ≤ 1099511627776)
    (hN : ∀ (m : Bool) (a : Option Addr) (k n : Nat) (s : Nat) (wx : World) (y6 y9 y10 y11 y12 y13 y14 y15 y16 y17 y18 : Value), ICell17 wx s m a k n → WAt wx m a k n (G * G) → W.heap.size ≤ s → Below W.heap.size W wx → Q .normal ⟨#[x0, x1, x2, .pointer (some ⟨g, 0, none⟩), x4, .pointer (some ⟨s, 0, none⟩), y6, x7, x8, y9, y10, y11, y12, y13, y14, y15, y16, y17, y18, x19, x20, x21, x22, x23, x24, x25, x26, x27, x28, x29, x30], []⟩ wx) :
    Code.wp Try.prog ((Try.f14.body.bind (pcAt 1)).getD .skip) Q ⟨#[x0, x1, x2, .pointer (some ⟨g, 0, none⟩), x4, x5, x6, x7, x8, x9, x10, x11, x12, x13, x14, x15, x16, x17, x18, x19, x20, x21, x22, x23, x24, x25, x26, x27, x28, x29, x30], []⟩ W := by
  conv => arg 2; whnf
  have HN : Hid (∀ (m : Bool) (a : Option Addr) (k n : Nat) (s : Nat) (wx : World) (y6 y9 y10 y11 y12 y13 y14 y15 y16 y17 y18 : Value), ICell17 wx s m a k n → WAt wx m a k n (G * G) → W.heap.size ≤ s → Below W.heap.size W wx → Q .normal ⟨#[x0, x1, x2, .pointer (some ⟨g, 0, none⟩), x4, .pointer (some ⟨s, 0, none⟩), y6, x7, x8, y9, y10, y11, y12, y13, y14, y15, y16, y17, y18, x19, x20, x21, x22, x23, x24, x25, x26, x27, x28, x29, x30], []⟩ wx) := hN
  clear hN
  have hG : (-9223372036854775808 ≤ G ∧ G < 9223372036854775808) := by omega
  have HS : Hid (∀ wx, Below W.heap.size W wx → wx.cell? ⟨g, 0, none⟩ = some (.int .i64 G)) := fun wx h => bkeep h hg.cell.1 rfl
  have HC1 : Hid (∀ wx, Below W.heap.size W wx → Calls Try.prog 30 #[.int .i64 G] wx fun e w' => ∃ p a l k, e = .returned (.agg #[.bool p, .slice a l k]) ∧ Hid (WAt w' p a l k G) ∧ Below W.heap.size W w' ∧ (∀ g', ICell17 wx g' false none 0 0 → ICell17 w' g' false none 0 0)) := fun wx h => (x17whole_any G wx hG).mono (fun e w' q => by
    obtain ⟨p, a, l, k, rfl, hF, hb⟩ := q
    exact ⟨p, a, l, k, rfl, hF, bthen h hb, fun g' z => z.below hb⟩)
  have HC2 : Hid (∀ wx p1 a1 l1 k1, WAt wx p1 a1 l1 k1 G → Below W.heap.size W wx → Calls Try.prog 30 #[.int .i64 G] wx fun e w' => ∃ p a l k, e = .returned (.agg #[.bool p, .slice a l k]) ∧ Hid (WAt w' p1 a1 l1 k1 G ∧ WAt w' p a l k G) ∧ Below W.heap.size W w' ∧ (∀ g', ICell17 wx g' false none 0 0 → ICell17 w' g' false none 0 0)) := fun wx p1 a1 l1 k1 hw h => (x17whole_any G wx hG).mono (fun e w' q => by
    obtain ⟨p, a, l, k, rfl, hF, hb⟩ := q
    exact ⟨p, a, l, k, rfl, ⟨hw.below hb, hF⟩, bthen h hb, fun g' z => z.below hb⟩)
  have HC3 : Hid (∀ wx p1 a1 l1 k1 p2 a2 l2 k2, WAt wx p1 a1 l1 k1 G → WAt wx p2 a2 l2 k2 G → Below W.heap.size W wx → Calls Try.prog 29 #[.agg #[.bool p1, .slice a1 l1 k1], .agg #[.bool p2, .slice a2 l2 k2]] wx fun e w' => ∃ p a l k, e = .returned (.tuple #[.agg #[.bool p, .slice a l k], .int .i64 0]) ∧ Hid (WAt w' p a l k (G * G)) ∧ Below W.heap.size W w' ∧ (∀ g', ICell17 wx g' false none 0 0 → ICell17 w' g' false none 0 0)) := fun wx p1 a1 l1 k1 p2 a2 l2 k2 h1 h2 h => (x17square_any hG1 hG2 h1 h2).mono (fun e w' q => by
    obtain ⟨p, a, l, k, rfl, hF, hb⟩ := q
    exact ⟨p, a, l, k, rfl, hF, bthen h hb, fun g' z => z.below hb⟩)
  have x0 := hg.cell.1
  clear hg hG1 hG2 hG
  refine wp_pcOnly ?_
  go_wp2_with fail
  go_region_held3 (fun w' => w'.cell? ⟨g, 0, none⟩ = some (.int .i64 G)) (first | with_reducible exact HS.out _ (by repeat (first | exact Below.refl _ _ | assumption | refine bdr12 ?_ | refine bgr12 ?_ _ | (refine bst17 ?_ ?_ _; rotate_left; focus (first | (dsimp only; omega) | (simp; done) | (simp; omega) | fail)))) | go_keep | assumption) (first
    | (go_at_call 30; with_reducible refine Calls.mono (HC2.out _ p1 a1 l1 k1 ?_ (by repeat (first | exact Below.refl _ _ | assumption | refine bdr12 ?_ | refine bgr12 ?_ _ | (refine bst17 ?_ ?_ _; rotate_left; focus (first | (dsimp only; omega) | (simp; done) | (simp; omega) | fail))))) ?_; (focus (repeat (first | with_reducible exact hA.out | refine WAt.drew ?_ | refine WAt.grow ?_ _))); rintro e w6 ⟨p2, a2, l2, k2, rfl, hB, b6, k6⟩; have y6 := b6.size; (first | (have T6 : ICell17 w6 W.heap.size false none 0 0 := k6 _ T5) | (have T6 : ICell17 w6 W.heap.size false none 0 0 := k6 _ (ICell17.drew17 T5)) | (have T6 : ICell17 w6 w5.heap.size false none 0 0 := k6 _ (ICell17.drew17 (ICell17.new w5 false none 0 0))) | (have T6 : ICell17 w6 w5.heap.size false none 0 0 := k6 _ (ICell17.new w5 false none 0 0)) | skip))
    | (go_at_call 30; with_reducible refine Calls.mono (HC1.out _ (by repeat (first | exact Below.refl _ _ | assumption | refine bdr12 ?_ | refine bgr12 ?_ _ | (refine bst17 ?_ ?_ _; rotate_left; focus (first | (dsimp only; omega) | (simp; done) | (simp; omega) | fail))))) ?_; rintro e w5 ⟨p1, a1, l1, k1, rfl, hA, b5, k5⟩; have y5 := b5.size; (first | (have T5 : ICell17 w5 W.heap.size false none 0 0 := k5 _ (ICell17.drew17 (ICell17.new W false none 0 0))) | (have T5 : ICell17 w5 W.heap.size false none 0 0 := k5 _ (ICell17.new W false none 0 0)) | skip))
    | (go_at_call 29; with_reducible refine Calls.mono (HC3.out _ p1 a1 l1 k1 p2 a2 l2 k2 ?_ ?_ (by repeat (first | exact Below.refl _ _ | assumption | refine bdr12 ?_ | refine bgr12 ?_ _ | (refine bst17 ?_ ?_ _; rotate_left; focus (first | (dsimp only; omega) | (simp; done) | (simp; omega) | fail))))) ?_; (focus (repeat (first | with_reducible exact hB.out.1 | refine WAt.drew ?_ | refine WAt.grow ?_ _))); (focus (repeat (first | with_reducible exact hB.out.2 | refine WAt.drew ?_ | refine WAt.grow ?_ _))); rintro e w7 ⟨p, a, l, k, rfl, hF, b7, k7⟩; have y7 := b7.size; (first | (have T7 : ICell17 w7 W.heap.size false none 0 0 := k7 _ T6) | (have T7 : ICell17 w7 W.heap.size false none 0 0 := k7 _ (ICell17.drew17 T6)) | (have T7 : ICell17 w7 w5.heap.size false none 0 0 := k7 _ T6) | (have T7 : ICell17 w7 w5.heap.size false none 0 0 := k7 _ (ICell17.drew17 T6)) | (have T7 : ICell17 w7 w6.heap.size false none 0 0 := k7 _ (ICell17.drew17 (ICell17.new w6 false none 0 0))) | (have T7 : ICell17 w7 w6.heap.size false none 0 0 := k7 _ (ICell17.new w6 false none 0 0)) | skip); (first | (have U7 := T7; obtain ⟨C0, C1, F0, F1⟩ := U7) | skip))
    | fail)
  all_goals
    first
      | exact HN.out _ _ _ _ _ _ _ _ _ _ _ _ _ _ _ _ _ (ICell17.new w7 p a l k) (hF.out.grow _) y7 (bthen b7 (balloc _ _))
      | exact HN.out _ _ _ _ _ _ _ _ _ _ _ _ _ _ _ _ _ (T7.put p a l k) (wat_put17 hF.out T7) (by omega) (put2_below17 b7 (by omega) _ _)
      | fail

set_option maxRecDepth 100000 in
set_option maxHeartbeats 12800000 in
theorem xs_p2 {x1 x2 x4 x6 x7 x8 x9 x10 x11 x12 x13 x14 x15 x16 x17 x18 x19 x20 x21 x22 x23 x24 x25 x26 x27 x28 x29 x30 : Value} {Q : Exit → Act → World → Prop} {W : World} {g s1 : Nat} {l G H : Int} {m1 : Bool} {a1 : Option Addr} {k1 n1 : Nat} (hg : SVar W g G H) (hs : ICell17 W s1 m1 a1 k1 n1) (hw : WAt W m1 a1 k1 n1 (G * G)) (hP : ScoreArg l G H)
    (hN : ∀ (m : Bool) (p : Option Addr) (k n : Nat) (p' : Option Addr) (k' n' : Nat) (s : Nat) (wx : World) (y8 y19 y20 y21 y22 y23 y24 y25 y26 y27 y28 y29 : Value), Cell3 wx s m p k n p' k' n' → FrAt17 wx m p k n p' k' n' (scoreQ l G H) → W.heap.size ≤ s → Below W.heap.size W wx → Q .normal ⟨#[.int .i64 l, x1, x2, .pointer (some ⟨g, 0, none⟩), x4, .pointer (some ⟨s1, 0, none⟩), x6, .pointer (some ⟨s, 0, none⟩), y8, x9, x10, x11, x12, x13, x14, x15, x16, x17, x18, y19, y20, y21, y22, y23, y24, y25, y26, y27, y28, y29, x30], []⟩ wx) :
    Code.wp Try.prog ((Try.f14.body.bind (pcAt 2)).getD .skip) Q ⟨#[.int .i64 l, x1, x2, .pointer (some ⟨g, 0, none⟩), x4, .pointer (some ⟨s1, 0, none⟩), x6, x7, x8, x9, x10, x11, x12, x13, x14, x15, x16, x17, x18, x19, x20, x21, x22, x23, x24, x25, x26, x27, x28, x29, x30], []⟩ W := by
  conv => arg 2; whnf
  have HN : Hid (∀ (m : Bool) (p : Option Addr) (k n : Nat) (p' : Option Addr) (k' n' : Nat) (s : Nat) (wx : World) (y8 y19 y20 y21 y22 y23 y24 y25 y26 y27 y28 y29 : Value), Cell3 wx s m p k n p' k' n' → FrAt17 wx m p k n p' k' n' (scoreQ l G H) → W.heap.size ≤ s → Below W.heap.size W wx → Q .normal ⟨#[.int .i64 l, x1, x2, .pointer (some ⟨g, 0, none⟩), x4, .pointer (some ⟨s1, 0, none⟩), x6, .pointer (some ⟨s, 0, none⟩), y8, x9, x10, x11, x12, x13, x14, x15, x16, x17, x18, y19, y20, y21, y22, y23, y24, y25, y26, y27, y28, y29, x30], []⟩ wx) := hN
  clear hN
  have hpos := scoreQ_pos hP
  obtain ⟨A, hA⟩ : ∃ A, A = H + l := ⟨_, rfl⟩
  have eA : H + l = A := hA.symm
  have bA : (-9223372036854775808 ≤ A ∧ A < 9223372036854775808) := by rw [hA]; have := hpos.1; have := hpos.2.1; omega
  have hwn : RowKit.wrap64 A = A := by unfold RowKit.wrap64; omega
  have hwm : IntKind.i64.wrap A = A := by rw [IntKind.wrap_i64]; omega
  have eN : ((scoreQ l G H).2 : Int) = A := by rw [hpos.2.1, hA]
  have HS : Hid (∀ wx, Below W.heap.size W wx → wx.cell? ⟨g, 1, none⟩ = some (.int .i64 H) ∧ wx.cell? ⟨s1, 0, none⟩ = some (.bool m1) ∧ wx.cell? ⟨s1, 1, none⟩ = some (.slice a1 k1 n1)) := fun wx h => ⟨bkeep h hg.cell.2 rfl, bkeep h hs.c0 rfl, bkeep h hs.c1 rfl⟩
  have HC1 : Hid (∀ wx, Below W.heap.size W wx → Calls Try.prog 30 #[.int .i64 A] wx fun e w' => ∃ p a l k, e = .returned (.agg #[.bool p, .slice a l k]) ∧ Hid (WAt w' p a l k A) ∧ Below W.heap.size W w' ∧ (∀ g', Cell3 wx g' false none 0 0 none 0 0 → Cell3 w' g' false none 0 0 none 0 0)) := fun wx h => (x17whole_any A wx bA).mono (fun e w' q => by
    obtain ⟨p, a, l, k, rfl, hF, hb⟩ := q
    exact ⟨p, a, l, k, rfl, hF, bthen h hb, fun g' z => z.below hb⟩)
  have HC2 : Hid (∀ wx p2 a2 l2 k2, WAt wx p2 a2 l2 k2 A → Below W.heap.size W wx → Calls Try.prog 31 #[.agg #[.bool m1, .slice a1 k1 n1], .slice a2 l2 k2] wx fun e w' => ∃ m p k n p' k' n', e = .returned (.tuple #[.agg #[.bool m, .slice p k n, .slice p' k' n'], .int .i64 0]) ∧ Hid (FrAt17 w' m p k n p' k' n' (scoreQ l G H)) ∧ Below W.heap.size W w' ∧ (∀ g', Cell3 wx g' false none 0 0 none 0 0 → Cell3 w' g' false none 0 0 none 0 0)) := fun wx p2 a2 l2 k2 h2 h => by
    rw [← eN] at h2
    refine (x17make_any (x := G * G) (y := (scoreQ l G H).2) (score_fit17 hP) (hw.below h) h2).mono (fun e w' q => ?_)
    obtain ⟨m, p, k, n, p', k', n', rfl, hF, hb⟩ := q
    exact ⟨m, p, k, n, p', k', n', rfl, hF, bthen h hb, fun g' z => z.below hb⟩
  obtain ⟨z0, z1, z2⟩ := HS.out W (Below.refl _ _)
  clear hg hs hw hP hpos hA bA eN
  refine wp_pcOnly ?_
  go_wp2_with fail
  go_region_held3 (fun w' => w'.cell? ⟨g, 1, none⟩ = some (.int .i64 H) ∧ w'.cell? ⟨s1, 0, none⟩ = some (.bool m1) ∧ w'.cell? ⟨s1, 1, none⟩ = some (.slice a1 k1 n1)) (first | with_reducible exact HS.out _ (by repeat (first | exact Below.refl _ _ | assumption | refine bdr12 ?_ | refine bgr12 ?_ _ | (refine bst17 ?_ ?_ _; rotate_left; focus (first | (dsimp only; omega) | (simp; done) | (simp; omega) | fail)))) | go_keep | assumption) (first
    | (go_at_call 30; with_reducible refine Calls.mono (HC1.out _ (by repeat (first | exact Below.refl _ _ | assumption | refine bdr12 ?_ | refine bgr12 ?_ _ | (refine bst17 ?_ ?_ _; rotate_left; focus (first | (dsimp only; omega) | (simp; done) | (simp; omega) | fail))))) ?_; rintro e w5 ⟨p2, a2, l2, k2, rfl, hA, b5, k5⟩; have y5 := b5.size; (first | (have T5 : Cell3 w5 W.heap.size false none 0 0 none 0 0 := k5 _ (Cell3.drew17 (Cell3.new W false none none 0 0 0 0))) | (have T5 : Cell3 w5 W.heap.size false none 0 0 none 0 0 := k5 _ (Cell3.new W false none none 0 0 0 0)) | skip))
    | (go_at_call 31; with_reducible refine Calls.mono (HC2.out _ p2 a2 l2 k2 ?_ (by repeat (first | exact Below.refl _ _ | assumption | refine bdr12 ?_ | refine bgr12 ?_ _ | (refine bst17 ?_ ?_ _; rotate_left; focus (first | (dsimp only; omega) | (simp; done) | (simp; omega) | fail))))) ?_; (focus (repeat (first | with_reducible exact hA.out | refine WAt.drew ?_ | refine WAt.grow ?_ _))); rintro e w7 ⟨m, p, k, n, p', k', n', rfl, hF, b7, k7⟩; have y7 := b7.size; (first | (have T7 : Cell3 w7 W.heap.size false none 0 0 none 0 0 := k7 _ T5) | (have T7 : Cell3 w7 W.heap.size false none 0 0 none 0 0 := k7 _ (Cell3.drew17 T5)) | (have T7 : Cell3 w7 w5.heap.size false none 0 0 none 0 0 := k7 _ (Cell3.drew17 (Cell3.new w5 false none none 0 0 0 0))) | (have T7 : Cell3 w7 w5.heap.size false none 0 0 none 0 0 := k7 _ (Cell3.new w5 false none none 0 0 0 0)) | skip); (first | (have U7 := T7; obtain ⟨C0, C1, C2, F0, F1, F2⟩ := U7) | skip))
    | fail)
  all_goals
    first
      | exact HN.out _ _ _ _ _ _ _ _ _ _ _ _ _ _ _ _ _ _ _ _ _ (Cell3.new w7 m p p' k n k' n') (hF.out.below (balloc _ _)) y7 (bthen b7 (balloc _ _))
      | (obtain ⟨v1, v2, v3, v4⟩ := fin17 T7 b7 (by omega) hF.out
         exact HN.out _ _ _ _ _ _ _ _ _ _ _ _ _ _ _ _ _ _ _ _ _ v1 v2 v3 v4)
      | fail

set_option maxRecDepth 100000 in
set_option maxHeartbeats 12800000 in
theorem xs_p3 {x0 x1 x2 x3 x5 x6 x8 x9 x10 x11 x12 x13 x14 x15 x16 x17 x18 x19 x20 x21 x22 x23 x24 x25 x26 x27 x28 x29 x30 : Value} {Q : Exit → Act → World → Prop} {W : World} {R s : Nat} {q : Q17} {m : Bool} {p : Option Addr} {k n : Nat} {p' : Option Addr} {k' n' : Nat} (hr : Cell3 W R false none 0 0 none 0 0) (hs : Cell3 W s m p k n p' k' n') (hf : FrAt17 W m p k n p' k' n' q)
    (hR : ∀ (wx : World) (y30 : Value), Cell3 wx R m p k n p' k' n' → FrAt17 wx m p k n p' k' n' q → (∀ B, B ≤ R → B ≤ W.heap.size → Below B W wx) → W.heap.size ≤ wx.heap.size → Q .ret ⟨#[x0, x1, x2, x3, .pointer (some ⟨R, 0, none⟩), x5, x6, .pointer (some ⟨s, 0, none⟩), x8, x9, x10, x11, x12, x13, x14, x15, x16, x17, x18, x19, x20, x21, x22, x23, x24, x25, x26, x27, x28, x29, y30], []⟩ wx) :
    Code.wp Try.prog ((Try.f14.body.bind (pcFrom 3)).getD .skip) Q ⟨#[x0, x1, x2, x3, .pointer (some ⟨R, 0, none⟩), x5, x6, .pointer (some ⟨s, 0, none⟩), x8, x9, x10, x11, x12, x13, x14, x15, x16, x17, x18, x19, x20, x21, x22, x23, x24, x25, x26, x27, x28, x29, x30], []⟩ W := by
  conv => arg 2; whnf
  have HR : Hid (∀ (wx : World) (y30 : Value), Cell3 wx R m p k n p' k' n' → FrAt17 wx m p k n p' k' n' q → (∀ B, B ≤ R → B ≤ W.heap.size → Below B W wx) → W.heap.size ≤ wx.heap.size → Q .ret ⟨#[x0, x1, x2, x3, .pointer (some ⟨R, 0, none⟩), x5, x6, .pointer (some ⟨s, 0, none⟩), x8, x9, x10, x11, x12, x13, x14, x15, x16, x17, x18, x19, x20, x21, x22, x23, x24, x25, x26, x27, x28, x29, y30], []⟩ wx) := hR
  clear hR
  have HK : Hid (Cell3 (((W.setCell ⟨R, 0, none⟩ (.bool m)).setCell ⟨R, 1, none⟩ (.slice p k n)).setCell ⟨R, 2, none⟩ (.slice p' k' n')) R m p k n p' k' n' ∧ FrAt17 (((W.setCell ⟨R, 0, none⟩ (.bool m)).setCell ⟨R, 1, none⟩ (.slice p k n)).setCell ⟨R, 2, none⟩ (.slice p' k' n')) m p k n p' k' n' q ∧ (∀ B, B ≤ R → B ≤ W.heap.size → Below B W (((W.setCell ⟨R, 0, none⟩ (.bool m)).setCell ⟨R, 1, none⟩ (.slice p k n)).setCell ⟨R, 2, none⟩ (.slice p' k' n'))) ∧ W.heap.size ≤ (((W.setCell ⟨R, 0, none⟩ (.bool m)).setCell ⟨R, 1, none⟩ (.slice p k n)).setCell ⟨R, 2, none⟩ (.slice p' k' n')).heap.size) := ⟨hr.put m p p' k n k' n', FrAt17.put17 hf hr, fun B h1 h2 => put3_below ((Below.refl _ W).mono h2) h1 _ _ _, by simp⟩
  obtain ⟨r0, r1, r2, f0, f1, f2⟩ := hr
  obtain ⟨x0, x1, x2, -, -, -⟩ := hs
  clear hf
  go_wp2_with fail
  exact HR.out _ _ HK.out.1 HK.out.2.1 HK.out.2.2.1 HK.out.2.2.2

set_option maxRecDepth 100000 in
theorem xs_ret {x0 x1 x2 x3 x5 x6 x7 x8 x9 x10 x11 x12 x13 x14 x15 x16 x17 x18 x19 x20 x21 x22 x23 x24 x25 x26 x27 x28 x29 x30 : Value} {R : Nat} {m : Bool} {p p' : Option Addr} {k n k' n' : Nat} {post : Ending → World → Prop} {W : World} (hr : Cell3 W R m p k n p' k' n') (h : post (.returned (.agg #[.bool m, .slice p k n, .slice p' k' n'])) W) : bodyPost Try.prog Try.f14 post .ret ⟨#[x0, x1, x2, x3, .pointer (some ⟨R, 0, none⟩), x5, x6, x7, x8, x9, x10, x11, x12, x13, x14, x15, x16, x17, x18, x19, x20, x21, x22, x23, x24, x25, x26, x27, x28, x29, x30], []⟩ W := by
  obtain ⟨r0, r1, r2, -⟩ := hr
  exact bodyPost_ret (v := .agg #[.bool m, .slice p k n, .slice p' k' n']) (by simp [results, Try.results14, go_sem, r0, r1, r2]) rfl h

set_option maxRecDepth 100000 in
set_option maxHeartbeats 3200000 in
theorem x17score_any (l G H : Int) (w : World) (hP : ScoreArg l G H) : Calls Try.prog 14 #[.int .i64 l, .agg #[.int .i64 G, .int .i64 H]] w fun e w' => Fr17T (scoreQ l G H) w e w' := by
  have hv1 := balloc w (.cells #[.int .i64 G, .int .i64 H] 23)
  have hv3 := balloc (w.alloc (.cells #[.int .i64 G, .int .i64 H] 23)) (.cells #[.bool false, .slice none 0 0, .slice none 0 0] 30)
  have hV := bthen hv1 hv3
  have s1 : SVar ((w.alloc (.cells #[.int .i64 G, .int .i64 H] 23)).alloc (.cells #[.bool false, .slice none 0 0, .slice none 0 0] 30)) w.heap.size G H := SVar.below (heap_alloc_new w _) hv3
  have hR : Cell3 ((w.alloc (.cells #[.int .i64 G, .int .i64 H] 23)).alloc (.cells #[.bool false, .slice none 0 0, .slice none 0 0] 30)) (w.heap.size + 1) false none 0 0 none 0 0 := by
    have := Cell3.new (w.alloc (.cells #[.int .i64 G, .int .i64 H] 23)) false none none 0 0 0 0
    simpa using this
  go_enter Try.func14, Try.ntmps14
  refine pcSeq (fun Q0 n0 r0 _ => xs_p0 ?_)
  intros
  refine n0 _ _ (pcSeq (fun Q1 n1 r1 _ => xs_p1 s1 hP.2.1 hP.2.2.1 ?_))
  intro m1 a1 k1 j1 t1 w1
  intros
  rename_i c1 f1 ht1 hb1
  refine n1 _ _ (pcSeq (fun Q2 n2 r2 _ => xs_p2 (s1.below hb1) c1 f1 hP ?_))
  intro m p k n p' k' n' t2 w2
  intros
  rename_i c2 f2 ht2 hb2
  refine n2 _ _ (xs_p3 (hR.below (bthen hb1 hb2)) c2 f2 ?_)
  intro wx
  intros
  rename_i v1 v2 h3 v4
  have hb := bthen hV (bthen hb1 hb2)
  exact xs_ret v1 ⟨m, p, k, n, p', k', n', rfl, v2, hb.trans (h3 _ (by omega) hb.size)⟩
set_option maxRecDepth 100000 in
set_option maxHeartbeats 12800000 in
theorem xp_p0 {x0 x2 x3 x4 x5 x6 x7 x8 x9 x10 x11 x12 x13 x14 x15 x16 x17 : Value} {Q : Exit → Act → World → Prop} {W : World} {G H : Int} 
    (hN : Q .normal ⟨#[x0, .agg #[.int .i64 G, .int .i64 H], x2, .pointer (some ⟨W.heap.size, 0, none⟩), .pointer (some ⟨(W.heap.size + 1), 0, none⟩), .int .i64 0, x6, x7, x8, x9, x10, x11, x12, x13, x14, x15, x16, x17], []⟩ ((W.alloc (.cells #[.int .i64 G, .int .i64 H] 23)).alloc (.cells #[.bool false, .slice none 0 0, .slice none 0 0] 30))) :
    Code.wp Try.prog ((Try.f7.body.bind (pcAt 0)).getD .skip) Q ⟨#[x0, .agg #[.int .i64 G, .int .i64 H], x2, x3, x4, x5, x6, x7, x8, x9, x10, x11, x12, x13, x14, x15, x16, x17], []⟩ W := by
  conv => arg 2; whnf
  have HN : Hid (Q .normal ⟨#[x0, .agg #[.int .i64 G, .int .i64 H], x2, .pointer (some ⟨W.heap.size, 0, none⟩), .pointer (some ⟨(W.heap.size + 1), 0, none⟩), .int .i64 0, x6, x7, x8, x9, x10, x11, x12, x13, x14, x15, x16, x17], []⟩ ((W.alloc (.cells #[.int .i64 G, .int .i64 H] 23)).alloc (.cells #[.bool false, .slice none 0 0, .slice none 0 0] 30))) := hN
  clear hN
  go_wp2_with fail
  exact HN.out   

set_option maxRecDepth 100000 in
set_option maxHeartbeats 12800000 in
theorem xp_p1 {x1 x2 x5 x6 x7 x8 x9 x10 x11 x12 x13 x14 x15 x16 x17 : Value} {Q : Exit → Act → World → Prop} {W : World} {g R : Nat} {l G H : Int} (hg : SVar W g G H) (hr : Cell3 W R false none 0 0 none 0 0)
    (hN : ∀ (wx : World) (y5 y6 y7 y8 y9 y10 y11 y12 y13 y14 : Value), ScoreArg l G H → Below W.heap.size W wx → Q .normal ⟨#[.int .i64 l, x1, x2, .pointer (some ⟨g, 0, none⟩), .pointer (some ⟨R, 0, none⟩), y5, y6, y7, y8, y9, y10, y11, y12, y13, y14, x15, x16, x17], []⟩ wx)
    (hR : ∀ (wx : World) (y6 y7 y8 y9 y10 y11 y12 y13 y14 : Value), ¬ ScoreArg l G H → Below W.heap.size W wx → Q .ret ⟨#[.int .i64 l, x1, x2, .pointer (some ⟨g, 0, none⟩), .pointer (some ⟨R, 0, none⟩), .int .i64 1, y6, y7, y8, y9, y10, y11, y12, y13, y14, x15, x16, x17], []⟩ (((wx.setCell ⟨R, 0, none⟩ (.bool false)).setCell ⟨R, 1, none⟩ (.slice none 0 0)).setCell ⟨R, 2, none⟩ (.slice none 0 0))) :
    Code.wp Try.prog ((Try.f7.body.bind (pcAt 1)).getD .skip) Q ⟨#[.int .i64 l, x1, x2, .pointer (some ⟨g, 0, none⟩), .pointer (some ⟨R, 0, none⟩), x5, x6, x7, x8, x9, x10, x11, x12, x13, x14, x15, x16, x17], []⟩ W := by
  conv => arg 2; whnf
  have HN : Hid (∀ (wx : World) (y5 y6 y7 y8 y9 y10 y11 y12 y13 y14 : Value), ScoreArg l G H → Below W.heap.size W wx → Q .normal ⟨#[.int .i64 l, x1, x2, .pointer (some ⟨g, 0, none⟩), .pointer (some ⟨R, 0, none⟩), y5, y6, y7, y8, y9, y10, y11, y12, y13, y14, x15, x16, x17], []⟩ wx) := hN
  have HR : Hid (∀ (wx : World) (y6 y7 y8 y9 y10 y11 y12 y13 y14 : Value), ¬ ScoreArg l G H → Below W.heap.size W wx → Q .ret ⟨#[.int .i64 l, x1, x2, .pointer (some ⟨g, 0, none⟩), .pointer (some ⟨R, 0, none⟩), .int .i64 1, y6, y7, y8, y9, y10, y11, y12, y13, y14, x15, x16, x17], []⟩ (((wx.setCell ⟨R, 0, none⟩ (.bool false)).setCell ⟨R, 1, none⟩ (.slice none 0 0)).setCell ⟨R, 2, none⟩ (.slice none 0 0))) := hR
  clear hN hR
  obtain ⟨x0, x1⟩ := hg.cell
  have HL := (show Hid _ from x17lam_any l W)
  have HC := (show Hid _ from x17sum_any G H W)
  have HRc : Hid (∀ wx, Below W.heap.size W wx → Cell3 wx R false none 0 0 none 0 0) := fun wx hb => hr.below hb
  clear hg hr
  go_wp2_with fail
  refine Calls.mono HL.out ?_
  rintro e w1 ⟨a, rfl, ha, rfl⟩
  have HA : Hid (a = true ↔ LamOk l) := ha
  clear HL ha
  dsimp only
  cases a with
  | false =>
    obtain ⟨r0, r1, r2, f0, f1, f2⟩ := HRc.out _ (Below.refl _ _)
    have HX : Hid (¬ ScoreArg l G H) := fun e => by have := HA.out.2 e.1; cases this
    clear HN HC HRc x0 x1 HA
    go_wp2_with fail
    exact HR.out _ _ _ _ _ _ _ _ _ _ HX.out (Below.refl _ _)
  | true =>
  go_wp2_with fail
  refine Calls.mono HC.out ?_
  rintro e w2 ⟨b, rfl, hb, hb2⟩
  have HB : Hid ((b = true ↔ SumOk G H) ∧ Below W.heap.size W w2 ∧ LamOk l) := ⟨hb, hb2, HA.out.1 (by trivial)⟩
  obtain ⟨r0, r1, r2, f0, f1, f2⟩ := HRc.out _ hb2
  clear HC HRc HA hb hb2 x0 x1
  dsimp only
  cases b with
  | false =>
    have HX : Hid (¬ ScoreArg l G H) := fun e => by have := HB.out.1.2 e.2; cases this
    clear HN
    go_wp2_with fail
    exact HR.out _ _ _ _ _ _ _ _ _ _ HX.out HB.out.2.1
  | true =>
    have HX : Hid (ScoreArg l G H) := ⟨HB.out.2.2, HB.out.1.1 (by trivial)⟩
    clear HR r0 r1 r2 f0 f1 f2
    go_wp2_with fail
    exact HN.out _ _ _ _ _ _ _ _ _ _ _ HX.out HB.out.2.1

set_option maxRecDepth 100000 in
set_option maxHeartbeats 12800000 in
theorem xp_p3 {x1 x2 x5 x6 x7 x8 x9 x10 x11 x12 x13 x14 x15 x16 x17 : Value} {Q : Exit → Act → World → Prop} {W : World} {g R : Nat} {l G H : Int} (hg : SVar W g G H) (hr : Cell3 W R false none 0 0 none 0 0) (hP : ScoreArg l G H)
    (hR : ∀ (m : Bool) (p : Option Addr) (k n : Nat) (p' : Option Addr) (k' n' : Nat) (wx : World) (y15 y16 y17 : Value), Cell3 wx R m p k n p' k' n' → FrAt17 wx m p k n p' k' n' (scoreQ l G H) → (∀ B, B ≤ R → B ≤ W.heap.size → Below B W wx) → W.heap.size ≤ wx.heap.size → Q .ret ⟨#[.int .i64 l, x1, x2, .pointer (some ⟨g, 0, none⟩), .pointer (some ⟨R, 0, none⟩), .int .i64 0, x6, x7, x8, x9, x10, x11, x12, x13, x14, y15, y16, y17], []⟩ wx) :
    Code.wp Try.prog ((Try.f7.body.bind (pcFrom 3)).getD .skip) Q ⟨#[.int .i64 l, x1, x2, .pointer (some ⟨g, 0, none⟩), .pointer (some ⟨R, 0, none⟩), x5, x6, x7, x8, x9, x10, x11, x12, x13, x14, x15, x16, x17], []⟩ W := by
  conv => arg 2; whnf
  have HR : Hid (∀ (m : Bool) (p : Option Addr) (k n : Nat) (p' : Option Addr) (k' n' : Nat) (wx : World) (y15 y16 y17 : Value), Cell3 wx R m p k n p' k' n' → FrAt17 wx m p k n p' k' n' (scoreQ l G H) → (∀ B, B ≤ R → B ≤ W.heap.size → Below B W wx) → W.heap.size ≤ wx.heap.size → Q .ret ⟨#[.int .i64 l, x1, x2, .pointer (some ⟨g, 0, none⟩), .pointer (some ⟨R, 0, none⟩), .int .i64 0, x6, x7, x8, x9, x10, x11, x12, x13, x14, y15, y16, y17], []⟩ wx) := hR
  clear hR
  obtain ⟨x0, x1⟩ := hg.cell
  have HC := (show Hid _ from x17score_any l G H W hP)
  have HRc : Hid (∀ wx, Below W.heap.size W wx → Cell3 wx R false none 0 0 none 0 0) := fun wx hb => hr.below hb
  clear hg hr hP
  go_wp2_with fail
  refine Calls.mono HC.out ?_
  rintro e w1 ⟨m, p, k, n, p', k', n', rfl, hF, hb⟩
  have hr1 := HRc.out _ hb
  have HK : Hid (Cell3 (((w1.setCell ⟨R, 0, none⟩ (.bool m)).setCell ⟨R, 1, none⟩ (.slice p k n)).setCell ⟨R, 2, none⟩ (.slice p' k' n')) R m p k n p' k' n' ∧ FrAt17 (((w1.setCell ⟨R, 0, none⟩ (.bool m)).setCell ⟨R, 1, none⟩ (.slice p k n)).setCell ⟨R, 2, none⟩ (.slice p' k' n')) m p k n p' k' n' (scoreQ l G H) ∧ (∀ B, B ≤ R → B ≤ W.heap.size → Below B W (((w1.setCell ⟨R, 0, none⟩ (.bool m)).setCell ⟨R, 1, none⟩ (.slice p k n)).setCell ⟨R, 2, none⟩ (.slice p' k' n'))) ∧ W.heap.size ≤ (((w1.setCell ⟨R, 0, none⟩ (.bool m)).setCell ⟨R, 1, none⟩ (.slice p k n)).setCell ⟨R, 2, none⟩ (.slice p' k' n')).heap.size) := ⟨hr1.put m p p' k n k' n', FrAt17.put17 hF hr1, fun B h1 h2 => put3_below (hb.mono h2) h1 _ _ _, by simpa using hb.size⟩
  obtain ⟨r0, r1, r2, f0, f1, f2⟩ := hr1
  clear HC HRc hF hb x0 x1
  go_wp2_with fail
  exact HR.out _ _ _ _ _ _ _ _ _ _ _ HK.out.1 HK.out.2.1 HK.out.2.2.1 HK.out.2.2.2

set_option maxRecDepth 100000 in
theorem xp_ret {x0 x1 x2 x3 x6 x7 x8 x9 x10 x11 x12 x13 x14 x15 x16 x17 : Value} {R : Nat} {m : Bool} {p p' : Option Addr} {k n k' n' : Nat} {er : Int} {post : Ending → World → Prop} {W : World} (hr : Cell3 W R m p k n p' k' n') (h : post (.returned (.tuple #[.agg #[.bool m, .slice p k n, .slice p' k' n'], .int .i64 er])) W) : bodyPost Try.prog Try.f7 post .ret ⟨#[x0, x1, x2, x3, .pointer (some ⟨R, 0, none⟩), .int .i64 er, x6, x7, x8, x9, x10, x11, x12, x13, x14, x15, x16, x17], []⟩ W := by
  obtain ⟨r0, r1, r2, -⟩ := hr
  exact bodyPost_ret (v := .tuple #[.agg #[.bool m, .slice p k n, .slice p' k' n'], .int .i64 er]) (by simp [results, Try.results7, go_sem, r0, r1, r2]) rfl h

set_option maxRecDepth 100000 in
set_option maxHeartbeats 3200000 in
theorem sco_ok17 : ScoOk17 := by
  intro l G H w _ _ _
  have hv1 := balloc w (.cells #[.int .i64 G, .int .i64 H] 23)
  have hv3 := balloc (w.alloc (.cells #[.int .i64 G, .int .i64 H] 23)) (.cells #[.bool false, .slice none 0 0, .slice none 0 0] 30)
  have hV := bthen hv1 hv3
  have s1 : SVar ((w.alloc (.cells #[.int .i64 G, .int .i64 H] 23)).alloc (.cells #[.bool false, .slice none 0 0, .slice none 0 0] 30)) w.heap.size G H := SVar.below (heap_alloc_new w _) hv3
  have hR : Cell3 ((w.alloc (.cells #[.int .i64 G, .int .i64 H] 23)).alloc (.cells #[.bool false, .slice none 0 0, .slice none 0 0] 30)) (w.heap.size + 1) false none 0 0 none 0 0 := by
    have := Cell3.new (w.alloc (.cells #[.int .i64 G, .int .i64 H] 23)) false none none 0 0 0 0
    simpa using this
  have hBad : ∀ W, Cell3 W (w.heap.size + 1) false none 0 0 none 0 0 → Below w.heap.size w W → ¬ ScoreArg l G H → Cell3 (((W.setCell ⟨w.heap.size + 1, 0, none⟩ (.bool false)).setCell ⟨w.heap.size + 1, 1, none⟩ (.slice none 0 0)).setCell ⟨w.heap.size + 1, 2, none⟩ (.slice none 0 0)) (w.heap.size + 1) false none 0 0 none 0 0 ∧ FT17 (ScoreArg l G H) (scoreQ l G H) w (.returned (.tuple #[.agg #[.bool false, .slice none 0 0, .slice none 0 0], .int .i64 1])) (((W.setCell ⟨w.heap.size + 1, 0, none⟩ (.bool false)).setCell ⟨w.heap.size + 1, 1, none⟩ (.slice none 0 0)).setCell ⟨w.heap.size + 1, 2, none⟩ (.slice none 0 0)) := fun W h hb hn =>
    ⟨h.put false none none 0 0 0 0, fun e => absurd e hn, fun _ => ⟨false, none, 0, 0, none, 0, 0, [], [], 1, rfl, ⟨Nums.nil _, Nums.nil _⟩, ToldF.bad rfl, put3_below hb (g := w.heap.size + 1) (by omega) _ _ _⟩⟩
  go_enter Try.func7, Try.ntmps7
  refine pcSeq (fun Q0 n0 r0 _ => xp_p0 ?_)
  intros
  refine n0 _ _ (pcSeq (fun Q1 n1 r1 _ => xp_p1 s1 hR ?_ ?_))
  · intro w1
    intros
    rename_i hP hb1
    refine n1 _ _ (xp_p3 (s1.below hb1) (hR.below hb1) hP ?_)
    intro m p k n p' k' n' wx
    intros
    rename_i v1 v2 h3 v4
    have hb := bthen hV hb1
    obtain ⟨us, vs, u1, u2, u3, u4⟩ := v2
    exact xp_ret v1 ⟨fun _ => ⟨m, p, k, n, p', k', n', us, vs, 0, rfl, ⟨u1, u2⟩, ToldF.good rfl u3 u4, hb.trans (h3 _ (by omega) hb.size)⟩, fun e => absurd hP e⟩
  · intro w1
    intros
    rename_i hno hb1
    obtain ⟨z1, z2⟩ := hBad w1 (hR.below hb1) (bthen hV hb1) hno
    exact r1 _ _ (xp_ret z1 z2)
end Go.Proofs.Ytchmlfjjgehbkaa

/-
  The document's Left. Written by mk/r15left.py.
-/
import Derived.Test.YtaiikhbfnfcalaaR15A
import Derived.Test.YtaiikhbfnfcalaaR14A
namespace Go.Proofs.Ytaiikhbfnfcalaa
open Go.RowKit

theorem ints_snoc15 (ns : List Nat) (k : Nat) : ints (ns ++ [k]) = ints ns ++ [(k : Int)] := by simp [ints]
/-- Left, under way. -/
structure LfAt (w : World) (g R : Nat) (v : TV) (t : Tab) (W : World) : Prop where
  var : TVar W g v
  tab : TabAt W v t
  r : W.heap[R]? = some (.cells #[.int .i64 0, .slice none 0 0] 42 (0, 0))
  new : w.heap.size ≤ R
  below : Below w.heap.size w W
theorem LfAt.grow {w : World} {g R : Nat} {v : TV} {t : Tab} {W W' : World} (h : LfAt w g R v t W) (hb : Below W.heap.size W W') : LfAt w g R v t W' := ⟨h.var.below hb, h.tab.below hb, (hb.block R (Array.getElem?_eq_some_iff.1 h.r).1).trans h.r, h.new, bthen h.below hb⟩

set_option maxRecDepth 100000 in
set_option maxHeartbeats 12800000 in
theorem lf_p0 {x1 x2 x3 x4 x5 x6 x7 x8 x9 x10 x11 x12 x13 x14 x15 x16 x17 x18 x19 x20 x21 x22 x23 x24 x25 x26 x27 x28 x29 x30 x31 x32 x33 x34 x35 x36 x37 x38 x39 x40 x41 x42 x43 x44 x45 x46 x47 x48 x49 x50 x51 x52 x53 x54 x55 x56 x57 x58 x59 x60 x61 x62 x63 x64 x65 x66 : Value} {Q : Exit → Act → World → Prop} {W : World} {v : TV} 
    (hN : Q .normal ⟨#[.agg #[.slice v.p0 v.l0 v.c0, .slice v.p1 v.l1 v.c1, .slice v.p2 v.l2 v.c2], x1, x2, .pointer (some ⟨W.heap.size, 0, none⟩), x4, x5, .pointer (some ⟨(W.heap.size + 1), 0, none⟩), .int .i64 0, x8, x9, x10, x11, x12, x13, x14, x15, x16, x17, x18, x19, x20, x21, x22, x23, x24, x25, x26, x27, x28, x29, x30, x31, x32, x33, x34, x35, x36, x37, x38, x39, x40, x41, x42, x43, x44, x45, x46, x47, x48, x49, x50, x51, x52, x53, x54, x55, x56, x57, x58, x59, x60, x61, x62, x63, x64, x65, x66], []⟩ ((W.alloc (.cells v.cells 25)).alloc (.cells #[.int .i64 0, .slice none 0 0] 42))) :
    Code.wp Try.prog ((Try.f21.body.bind (pcAt 0)).getD .skip) Q ⟨#[.agg #[.slice v.p0 v.l0 v.c0, .slice v.p1 v.l1 v.c1, .slice v.p2 v.l2 v.c2], x1, x2, x3, x4, x5, x6, x7, x8, x9, x10, x11, x12, x13, x14, x15, x16, x17, x18, x19, x20, x21, x22, x23, x24, x25, x26, x27, x28, x29, x30, x31, x32, x33, x34, x35, x36, x37, x38, x39, x40, x41, x42, x43, x44, x45, x46, x47, x48, x49, x50, x51, x52, x53, x54, x55, x56, x57, x58, x59, x60, x61, x62, x63, x64, x65, x66], []⟩ W := by
  conv => arg 2; whnf
  have HN : Hid (Q .normal ⟨#[.agg #[.slice v.p0 v.l0 v.c0, .slice v.p1 v.l1 v.c1, .slice v.p2 v.l2 v.c2], x1, x2, .pointer (some ⟨W.heap.size, 0, none⟩), x4, x5, .pointer (some ⟨(W.heap.size + 1), 0, none⟩), .int .i64 0, x8, x9, x10, x11, x12, x13, x14, x15, x16, x17, x18, x19, x20, x21, x22, x23, x24, x25, x26, x27, x28, x29, x30, x31, x32, x33, x34, x35, x36, x37, x38, x39, x40, x41, x42, x43, x44, x45, x46, x47, x48, x49, x50, x51, x52, x53, x54, x55, x56, x57, x58, x59, x60, x61, x62, x63, x64, x65, x66], []⟩ ((W.alloc (.cells v.cells 25)).alloc (.cells #[.int .i64 0, .slice none 0 0] 42))) := hN
  clear hN
  go_wp2_with fail
  exact HN.out   

set_option maxRecDepth 100000 in
set_option maxHeartbeats 12800000 in
theorem lf_p1 {x0 x1 x2 x4 x5 x6 x7 x8 x9 x10 x11 x12 x13 x14 x15 x16 x17 x18 x19 x20 x21 x22 x23 x24 x25 x26 x27 x28 x29 x30 x31 x32 x33 x34 x35 x36 x37 x38 x39 x40 x41 x42 x43 x44 x45 x46 x47 x48 x49 x50 x51 x52 x53 x54 x55 x56 x57 x58 x59 x60 x61 x62 x63 x64 x65 x66 : Value} {Q : Exit → Act → World → Prop} {W : World} {g : Nat} {v : TV} {t : Tab} (hv : TVar W g v) (ht : TabAt W v t)
    (hN : ∀ (b : Bool) (wx : World) (y11 y12 : Value), (b = true ↔ TabOk t) → Below W.heap.size W wx → Q .normal ⟨#[x0, x1, x2, .pointer (some ⟨g, 0, none⟩), x4, x5, x6, x7, .bool b, x9, x10, y11, y12, x13, x14, x15, x16, x17, x18, x19, x20, x21, x22, x23, x24, x25, x26, x27, x28, x29, x30, x31, x32, x33, x34, x35, x36, x37, x38, x39, x40, x41, x42, x43, x44, x45, x46, x47, x48, x49, x50, x51, x52, x53, x54, x55, x56, x57, x58, x59, x60, x61, x62, x63, x64, x65, x66], []⟩ wx) :
    Code.wp Try.prog ((Try.f21.body.bind (pcAt 1)).getD .skip) Q ⟨#[x0, x1, x2, .pointer (some ⟨g, 0, none⟩), x4, x5, x6, x7, x8, x9, x10, x11, x12, x13, x14, x15, x16, x17, x18, x19, x20, x21, x22, x23, x24, x25, x26, x27, x28, x29, x30, x31, x32, x33, x34, x35, x36, x37, x38, x39, x40, x41, x42, x43, x44, x45, x46, x47, x48, x49, x50, x51, x52, x53, x54, x55, x56, x57, x58, x59, x60, x61, x62, x63, x64, x65, x66], []⟩ W := by
  conv => arg 2; whnf
  have HN : Hid (∀ (b : Bool) (wx : World) (y11 y12 : Value), (b = true ↔ TabOk t) → Below W.heap.size W wx → Q .normal ⟨#[x0, x1, x2, .pointer (some ⟨g, 0, none⟩), x4, x5, x6, x7, .bool b, x9, x10, y11, y12, x13, x14, x15, x16, x17, x18, x19, x20, x21, x22, x23, x24, x25, x26, x27, x28, x29, x30, x31, x32, x33, x34, x35, x36, x37, x38, x39, x40, x41, x42, x43, x44, x45, x46, x47, x48, x49, x50, x51, x52, x53, x54, x55, x56, x57, x58, x59, x60, x61, x62, x63, x64, x65, x66], []⟩ wx) := hN
  clear hN
  obtain ⟨c0, c1, c2, -⟩ := hv.cells
  have HC := (show Hid _ from r15right_any v t W ht)
  clear hv ht
  go_wp2_with fail
  refine Calls.mono HC.out ?_
  rintro e w2 ⟨b, rfl, hb, hbl⟩
  have HB : Hid ((b = true ↔ TabOk t) ∧ Below W.heap.size W w2) := ⟨hb, hbl⟩
  clear hb hbl HC
  go_wp2_with fail
  exact HN.out _ _ _ _ HB.out.1 HB.out.2

set_option maxRecDepth 100000 in
set_option maxHeartbeats 12800000 in
theorem lf_p2 {x0 x1 x2 x3 x4 x5 x7 x9 x10 x11 x12 x13 x14 x15 x16 x17 x18 x19 x20 x21 x22 x23 x24 x25 x26 x27 x28 x29 x30 x31 x32 x33 x34 x35 x36 x37 x38 x39 x40 x41 x42 x43 x44 x45 x46 x47 x48 x49 x50 x51 x52 x53 x54 x55 x56 x57 x58 x59 x60 x61 x62 x63 x64 x65 x66 : Value} {Q : Exit → Act → World → Prop} {W : World} {R : Nat} {b : Bool} (hr : W.heap[R]? = some (.cells #[.int .i64 0, .slice none 0 0] 42 (0, 0)))
    (hN : ∀ (y7 y13 y14 y15 : Value), b = true → Q .normal ⟨#[x0, x1, x2, x3, x4, x5, .pointer (some ⟨R, 0, none⟩), y7, .bool b, x9, x10, x11, x12, y13, y14, y15, x16, x17, x18, x19, x20, x21, x22, x23, x24, x25, x26, x27, x28, x29, x30, x31, x32, x33, x34, x35, x36, x37, x38, x39, x40, x41, x42, x43, x44, x45, x46, x47, x48, x49, x50, x51, x52, x53, x54, x55, x56, x57, x58, x59, x60, x61, x62, x63, x64, x65, x66], []⟩ W)
    (hR : ∀ (y13 y14 y15 : Value), b = false → Q .ret ⟨#[x0, x1, x2, x3, x4, x5, .pointer (some ⟨R, 0, none⟩), .int .i64 20, .bool b, x9, x10, x11, x12, y13, y14, y15, x16, x17, x18, x19, x20, x21, x22, x23, x24, x25, x26, x27, x28, x29, x30, x31, x32, x33, x34, x35, x36, x37, x38, x39, x40, x41, x42, x43, x44, x45, x46, x47, x48, x49, x50, x51, x52, x53, x54, x55, x56, x57, x58, x59, x60, x61, x62, x63, x64, x65, x66], []⟩ ((W.setCell ⟨R, 0, none⟩ (.int .i64 0)).setCell ⟨R, 1, none⟩ (.slice none 0 0))) :
    Code.wp Try.prog ((Try.f21.body.bind (pcAt 2)).getD .skip) Q ⟨#[x0, x1, x2, x3, x4, x5, .pointer (some ⟨R, 0, none⟩), x7, .bool b, x9, x10, x11, x12, x13, x14, x15, x16, x17, x18, x19, x20, x21, x22, x23, x24, x25, x26, x27, x28, x29, x30, x31, x32, x33, x34, x35, x36, x37, x38, x39, x40, x41, x42, x43, x44, x45, x46, x47, x48, x49, x50, x51, x52, x53, x54, x55, x56, x57, x58, x59, x60, x61, x62, x63, x64, x65, x66], []⟩ W := by
  conv => arg 2; whnf
  have HN : Hid (∀ (y7 y13 y14 y15 : Value), b = true → Q .normal ⟨#[x0, x1, x2, x3, x4, x5, .pointer (some ⟨R, 0, none⟩), y7, .bool b, x9, x10, x11, x12, y13, y14, y15, x16, x17, x18, x19, x20, x21, x22, x23, x24, x25, x26, x27, x28, x29, x30, x31, x32, x33, x34, x35, x36, x37, x38, x39, x40, x41, x42, x43, x44, x45, x46, x47, x48, x49, x50, x51, x52, x53, x54, x55, x56, x57, x58, x59, x60, x61, x62, x63, x64, x65, x66], []⟩ W) := hN
  have HR : Hid (∀ (y13 y14 y15 : Value), b = false → Q .ret ⟨#[x0, x1, x2, x3, x4, x5, .pointer (some ⟨R, 0, none⟩), .int .i64 20, .bool b, x9, x10, x11, x12, y13, y14, y15, x16, x17, x18, x19, x20, x21, x22, x23, x24, x25, x26, x27, x28, x29, x30, x31, x32, x33, x34, x35, x36, x37, x38, x39, x40, x41, x42, x43, x44, x45, x46, x47, x48, x49, x50, x51, x52, x53, x54, x55, x56, x57, x58, x59, x60, x61, x62, x63, x64, x65, x66], []⟩ ((W.setCell ⟨R, 0, none⟩ (.int .i64 0)).setCell ⟨R, 1, none⟩ (.slice none 0 0))) := hR
  clear hN hR
  have r0 : W.cell? ⟨R, 0, none⟩ = some (.int .i64 0) := by rw [cell_of_row _ _ _ _ _ _ hr]; rfl
  have r1 : W.cell? ⟨R, 1, none⟩ = some (.slice none 0 0) := by rw [cell_of_row _ _ _ _ _ _ hr]; rfl
  have f0 : W.frozen? ⟨R, 0, none⟩ = false := frozen_of_row _ _ _ _ _ hr
  have f1 : W.frozen? ⟨R, 1, none⟩ = false := frozen_of_row _ _ _ _ _ hr
  clear hr
  cases b with
  | true =>
    clear HR
    go_wp2_with fail
    exact HN.out  _ _ _ _ (by trivial)
  | false =>
    clear HN
    go_wp2_with fail
    exact HR.out  _ _ _ (by trivial)

set_option maxRecDepth 100000 in
set_option maxHeartbeats 12800000 in
theorem lf_p4 {x0 x4 x5 x7 x8 x9 x10 x11 x12 x13 x14 x15 x16 x17 x18 x19 x20 x21 x22 x23 x24 x25 x26 x27 x28 x29 x30 x31 x32 x33 x34 x35 x36 x37 x38 x39 x40 x41 x42 x43 x44 x45 x46 x47 x48 x49 x50 x51 x52 x53 x54 x55 x56 x57 x58 x59 x60 x61 x62 x63 x64 x65 x66 : Value} {Q : Exit → Act → World → Prop} {W : World} {g R : Nat} {v : TV} {t : Tab} {col cut : Int} (hr : W.heap[R]? = some (.cells #[.int .i64 0, .slice none 0 0] 42 (0, 0))) (hv : TVar W g v) (ht : TabAt W v t) (hl : v.l1 = v.l2)
    (hN : ∀ (y7 y16 y17 y18 y19 y20 y21 y22 y23 y24 y25 y26 y27 y28 y29 y30 y31 y32 y33 y34 y35 y36 y37 y38 : Value), LeftArg t col cut → Q .normal ⟨#[x0, .int .i64 col, .int .i64 cut, .pointer (some ⟨g, 0, none⟩), x4, x5, .pointer (some ⟨R, 0, none⟩), y7, x8, x9, x10, x11, x12, x13, x14, x15, y16, y17, y18, y19, y20, y21, y22, y23, y24, y25, y26, y27, y28, y29, y30, y31, y32, y33, y34, y35, y36, y37, y38, x39, x40, x41, x42, x43, x44, x45, x46, x47, x48, x49, x50, x51, x52, x53, x54, x55, x56, x57, x58, x59, x60, x61, x62, x63, x64, x65, x66], []⟩ W)
    (hR : ∀ (y16 y17 y18 y19 y20 y21 y22 y23 y24 y25 y26 y27 y28 y29 y30 y31 y32 y33 y34 y35 y36 y37 y38 : Value), ¬ LeftArg t col cut → Q .ret ⟨#[x0, .int .i64 col, .int .i64 cut, .pointer (some ⟨g, 0, none⟩), x4, x5, .pointer (some ⟨R, 0, none⟩), .int .i64 1, x8, x9, x10, x11, x12, x13, x14, x15, y16, y17, y18, y19, y20, y21, y22, y23, y24, y25, y26, y27, y28, y29, y30, y31, y32, y33, y34, y35, y36, y37, y38, x39, x40, x41, x42, x43, x44, x45, x46, x47, x48, x49, x50, x51, x52, x53, x54, x55, x56, x57, x58, x59, x60, x61, x62, x63, x64, x65, x66], []⟩ ((W.setCell ⟨R, 0, none⟩ (.int .i64 0)).setCell ⟨R, 1, none⟩ (.slice none 0 0))) :
    Code.wp Try.prog ((Try.f21.body.bind (pcAt 4)).getD .skip) Q ⟨#[x0, .int .i64 col, .int .i64 cut, .pointer (some ⟨g, 0, none⟩), x4, x5, .pointer (some ⟨R, 0, none⟩), x7, x8, x9, x10, x11, x12, x13, x14, x15, x16, x17, x18, x19, x20, x21, x22, x23, x24, x25, x26, x27, x28, x29, x30, x31, x32, x33, x34, x35, x36, x37, x38, x39, x40, x41, x42, x43, x44, x45, x46, x47, x48, x49, x50, x51, x52, x53, x54, x55, x56, x57, x58, x59, x60, x61, x62, x63, x64, x65, x66], []⟩ W := by
  conv => arg 2; whnf
  have HN : Hid (∀ (y7 y16 y17 y18 y19 y20 y21 y22 y23 y24 y25 y26 y27 y28 y29 y30 y31 y32 y33 y34 y35 y36 y37 y38 : Value), LeftArg t col cut → Q .normal ⟨#[x0, .int .i64 col, .int .i64 cut, .pointer (some ⟨g, 0, none⟩), x4, x5, .pointer (some ⟨R, 0, none⟩), y7, x8, x9, x10, x11, x12, x13, x14, x15, y16, y17, y18, y19, y20, y21, y22, y23, y24, y25, y26, y27, y28, y29, y30, y31, y32, y33, y34, y35, y36, y37, y38, x39, x40, x41, x42, x43, x44, x45, x46, x47, x48, x49, x50, x51, x52, x53, x54, x55, x56, x57, x58, x59, x60, x61, x62, x63, x64, x65, x66], []⟩ W) := hN
  have HR : Hid (∀ (y16 y17 y18 y19 y20 y21 y22 y23 y24 y25 y26 y27 y28 y29 y30 y31 y32 y33 y34 y35 y36 y37 y38 : Value), ¬ LeftArg t col cut → Q .ret ⟨#[x0, .int .i64 col, .int .i64 cut, .pointer (some ⟨g, 0, none⟩), x4, x5, .pointer (some ⟨R, 0, none⟩), .int .i64 1, x8, x9, x10, x11, x12, x13, x14, x15, y16, y17, y18, y19, y20, y21, y22, y23, y24, y25, y26, y27, y28, y29, y30, y31, y32, y33, y34, y35, y36, y37, y38, x39, x40, x41, x42, x43, x44, x45, x46, x47, x48, x49, x50, x51, x52, x53, x54, x55, x56, x57, x58, x59, x60, x61, x62, x63, x64, x65, x66], []⟩ ((W.setCell ⟨R, 0, none⟩ (.int .i64 0)).setCell ⟨R, 1, none⟩ (.slice none 0 0))) := hR
  clear hN hR
  have r0 : W.cell? ⟨R, 0, none⟩ = some (.int .i64 0) := by rw [cell_of_row _ _ _ _ _ _ hr]; rfl
  have r1 : W.cell? ⟨R, 1, none⟩ = some (.slice none 0 0) := by rw [cell_of_row _ _ _ _ _ _ hr]; rfl
  have f0 : W.frozen? ⟨R, 0, none⟩ = false := frozen_of_row _ _ _ _ _ hr
  have f1 : W.frozen? ⟨R, 1, none⟩ = false := frozen_of_row _ _ _ _ _ hr
  clear hr
  obtain ⟨c0, c1, c2, -⟩ := hv.cells
  have hcl := ht.cols.hlen
  have HB := (show Hid _ from ht.bins)
  have hc2 := ht.cols.hcap
  have hm2 := ht.cols.hmax
  unfold maxLen at hm2
  clear hv ht
  by_cases h1 : col < 0
  · have d1 : decide (col < 0) = true := decide_eq_true h1
    have HX : Hid (¬ LeftArg t col cut) := fun e => by have := e.1; omega
    clear HN h1 HB
    go_wp2_with fail
    exact HR.out  _ _ _ _ _ _ _ _ _ _ _ _ _ _ _ _ _ _ _ _ _ _ _ HX.out
  have d1 : decide (col < 0) = false := decide_eq_false h1
  by_cases h2 : (v.l2 : Int) ≤ col
  · have d2 : decide ((v.l2 : Int) ≤ col) = true := decide_eq_true h2
    have HX : Hid (¬ LeftArg t col cut) := fun e => by have := e.2.1; omega
    clear HN h1 h2 HB
    go_wp2_with fail
    exact HR.out  _ _ _ _ _ _ _ _ _ _ _ _ _ _ _ _ _ _ _ _ _ _ _ HX.out
  have d2 : decide ((v.l2 : Int) ≤ col) = false := decide_eq_false h2
  by_cases h3 : cut < 0
  · have d3 : decide (cut < 0) = true := decide_eq_true h3
    have HX : Hid (¬ LeftArg t col cut) := fun e => by have := e.2.2.1; omega
    clear HN h1 h2 h3 HB
    go_wp2_with fail
    exact HR.out  _ _ _ _ _ _ _ _ _ _ _ _ _ _ _ _ _ _ _ _ _ _ _ HX.out
  have d3 : decide (cut < 0) = false := decide_eq_false h3
  obtain ⟨j, rfl⟩ : ∃ j : Nat, col = (j : Int) := ⟨col.toNat, by omega⟩
  obtain ⟨b1, o1, q1, m1⟩ := HB.out.at (i := j) (by omega)
  rw [q1] at c1
  obtain ⟨x, hx⟩ : ∃ x, x = t.bins.getD j 0 := ⟨_, rfl⟩
  rw [← hx] at m1
  have f2 : (j : Int) < (v.l1 : Int) := by omega
  have f20 : (0 : Int) ≤ (j : Int) := by omega
  by_cases h4 : x ≤ cut
  · have d4 : decide (x ≤ cut) = true := decide_eq_true h4
    have HX : Hid (¬ LeftArg t (j : Int) cut) := fun e => by
      have := e.2.2.2
      rw [show (j : Int).toNat = j from rfl, ← hx] at this
      omega
    clear HN h1 h2 h3 h4 hx HB q1
    go_wp2_with fail
    exact HR.out  _ _ _ _ _ _ _ _ _ _ _ _ _ _ _ _ _ _ _ _ _ _ _ HX.out
  · have d4 : decide (x ≤ cut) = false := decide_eq_false h4
    have HX : Hid (LeftArg t (j : Int) cut) := ⟨by omega, by omega, by omega, by rw [show (j : Int).toNat = j from rfl, ← hx]; omega⟩
    clear HR h1 h2 h3 h4 hx HB q1
    go_wp2_with fail
    exact HN.out  _ _ _ _ _ _ _ _ _ _ _ _ _ _ _ _ _ _ _ _ _ _ _ _ HX.out

set_option maxRecDepth 100000 in
set_option maxHeartbeats 12800000 in
theorem lf_p6 {x0 x1 x2 x3 x4 x5 x6 x7 x8 x9 x10 x11 x12 x13 x14 x15 x16 x17 x18 x19 x20 x21 x22 x23 x24 x25 x26 x27 x28 x29 x30 x31 x32 x33 x34 x35 x36 x37 x38 x39 x40 x41 x42 x43 x44 x45 x46 x47 x48 x49 x50 x51 x52 x53 x54 x55 x56 x57 x58 x59 x60 x61 x62 x63 x64 x65 x66 : Value} {Q : Exit → Act → World → Prop} {W : World} 
    (hN : Q .normal ⟨#[x0, x1, x2, x3, x4, x5, x6, x7, x8, .slice none 0 0, x10, x11, x12, x13, x14, x15, x16, x17, x18, x19, x20, x21, x22, x23, x24, x25, x26, x27, x28, x29, x30, x31, x32, x33, x34, x35, x36, x37, x38, x39, x40, x41, x42, x43, x44, x45, x46, x47, x48, x49, x50, x51, x52, x53, x54, x55, x56, x57, x58, x59, x60, x61, x62, x63, x64, x65, x66], []⟩ W) :
    Code.wp Try.prog ((Try.f21.body.bind (pcAt 6)).getD .skip) Q ⟨#[x0, x1, x2, x3, x4, x5, x6, x7, x8, x9, x10, x11, x12, x13, x14, x15, x16, x17, x18, x19, x20, x21, x22, x23, x24, x25, x26, x27, x28, x29, x30, x31, x32, x33, x34, x35, x36, x37, x38, x39, x40, x41, x42, x43, x44, x45, x46, x47, x48, x49, x50, x51, x52, x53, x54, x55, x56, x57, x58, x59, x60, x61, x62, x63, x64, x65, x66], []⟩ W := by
  conv => arg 2; whnf
  have HN : Hid (Q .normal ⟨#[x0, x1, x2, x3, x4, x5, x6, x7, x8, .slice none 0 0, x10, x11, x12, x13, x14, x15, x16, x17, x18, x19, x20, x21, x22, x23, x24, x25, x26, x27, x28, x29, x30, x31, x32, x33, x34, x35, x36, x37, x38, x39, x40, x41, x42, x43, x44, x45, x46, x47, x48, x49, x50, x51, x52, x53, x54, x55, x56, x57, x58, x59, x60, x61, x62, x63, x64, x65, x66], []⟩ W) := hN
  clear hN
  go_wp2_with fail
  exact HN.out   

set_option maxRecDepth 100000 in
set_option maxHeartbeats 12800000 in
theorem lf_t8 {x0 x1 x2 x4 x5 x6 x7 x8 x9 x11 x12 x13 x14 x15 x16 x17 x18 x19 x20 x21 x22 x23 x24 x25 x26 x27 x28 x29 x30 x31 x32 x33 x34 x35 x36 x37 x38 x39 x40 x41 x42 x43 x44 x45 x46 x47 x48 x49 x50 x51 x52 x53 x54 x55 x56 x57 x58 x59 x60 x61 x62 x63 x64 x65 x66 : Value} {Q : Exit → Act → World → Prop} {W : World} {g i : Nat} {v : TV} (hv : TVar W g v) (hi : i ≤ v.l0)
    (hN : ∀ (y39 y40 y41 y42 y43 : Value), i < v.l0 → Q .normal ⟨#[x0, x1, x2, .pointer (some ⟨g, 0, none⟩), x4, x5, x6, x7, x8, x9, .int .i64 (i : Int), x11, x12, x13, x14, x15, x16, x17, x18, x19, x20, x21, x22, x23, x24, x25, x26, x27, x28, x29, x30, x31, x32, x33, x34, x35, x36, x37, x38, y39, y40, y41, y42, y43, x44, x45, x46, x47, x48, x49, x50, x51, x52, x53, x54, x55, x56, x57, x58, x59, x60, x61, x62, x63, x64, x65, x66], []⟩ W)
    (hE : ∀ (y39 y40 y41 y42 y43 : Value), i = v.l0 → Q (.exit 0) ⟨#[x0, x1, x2, .pointer (some ⟨g, 0, none⟩), x4, x5, x6, x7, x8, x9, .int .i64 (i : Int), x11, x12, x13, x14, x15, x16, x17, x18, x19, x20, x21, x22, x23, x24, x25, x26, x27, x28, x29, x30, x31, x32, x33, x34, x35, x36, x37, x38, y39, y40, y41, y42, y43, x44, x45, x46, x47, x48, x49, x50, x51, x52, x53, x54, x55, x56, x57, x58, x59, x60, x61, x62, x63, x64, x65, x66], []⟩ W) :
    Code.wp Try.prog (((Try.f21.body.bind (pcLoop 0)).bind (pcAt 8)).getD .skip) Q ⟨#[x0, x1, x2, .pointer (some ⟨g, 0, none⟩), x4, x5, x6, x7, x8, x9, .int .i64 (i : Int), x11, x12, x13, x14, x15, x16, x17, x18, x19, x20, x21, x22, x23, x24, x25, x26, x27, x28, x29, x30, x31, x32, x33, x34, x35, x36, x37, x38, x39, x40, x41, x42, x43, x44, x45, x46, x47, x48, x49, x50, x51, x52, x53, x54, x55, x56, x57, x58, x59, x60, x61, x62, x63, x64, x65, x66], []⟩ W := by
  conv => arg 2; whnf
  have HN : Hid (∀ (y39 y40 y41 y42 y43 : Value), i < v.l0 → Q .normal ⟨#[x0, x1, x2, .pointer (some ⟨g, 0, none⟩), x4, x5, x6, x7, x8, x9, .int .i64 (i : Int), x11, x12, x13, x14, x15, x16, x17, x18, x19, x20, x21, x22, x23, x24, x25, x26, x27, x28, x29, x30, x31, x32, x33, x34, x35, x36, x37, x38, y39, y40, y41, y42, y43, x44, x45, x46, x47, x48, x49, x50, x51, x52, x53, x54, x55, x56, x57, x58, x59, x60, x61, x62, x63, x64, x65, x66], []⟩ W) := hN
  have HE : Hid (∀ (y39 y40 y41 y42 y43 : Value), i = v.l0 → Q (.exit 0) ⟨#[x0, x1, x2, .pointer (some ⟨g, 0, none⟩), x4, x5, x6, x7, x8, x9, .int .i64 (i : Int), x11, x12, x13, x14, x15, x16, x17, x18, x19, x20, x21, x22, x23, x24, x25, x26, x27, x28, x29, x30, x31, x32, x33, x34, x35, x36, x37, x38, y39, y40, y41, y42, y43, x44, x45, x46, x47, x48, x49, x50, x51, x52, x53, x54, x55, x56, x57, x58, x59, x60, x61, x62, x63, x64, x65, x66], []⟩ W) := hE
  clear hN hE
  have c0 := hv.cells.1
  clear hv
  by_cases hlt : i < v.l0
  · have hlti : (i : Int) < (v.l0 : Int) := by omega
    clear HE
    go_wp2_with fail
    exact HN.out  _ _ _ _ _ hlt
  · have hlti : decide (i < v.l0) = false := decide_eq_false hlt
    have HE2 : Hid (i = v.l0) := by show _ = _; omega
    clear HN hi
    go_wp2_with fail
    exact HE.out  _ _ _ _ _ HE2.out

set_option maxRecDepth 100000 in
set_option maxHeartbeats 12800000 in
theorem lf_p10 {x0 x4 x5 x6 x7 x8 x11 x12 x13 x14 x15 x16 x17 x18 x19 x20 x21 x22 x23 x24 x25 x26 x27 x28 x29 x30 x31 x32 x33 x34 x35 x36 x37 x38 x39 x40 x41 x42 x43 x44 x45 x46 x47 x48 x49 x50 x51 x52 x53 x54 x55 x56 x57 x58 x59 x60 x61 x62 x63 x64 x65 x66 : Value} {Q : Exit → Act → World → Prop} {W : World} {g i j b2 o2 l2 k2 bc oc lc kc base : Nat} {cut y : Int} {sv : Value} {ns : List Nat} (c2 : W.cell? ⟨g, 2, none⟩ = some (.slice (some ⟨b2, o2, none⟩) l2 k2)) (m2 : W.cell? ⟨b2, o2 + j, none⟩ = some (.slice (some ⟨bc, oc, none⟩) lc kc)) (m3 : W.cell? ⟨bc, oc + i, none⟩ = some (.int .i64 y)) (hj : j < l2) (hi : i < lc) (hO : IOwn W base sv (ints ns)) (hn : ns.length ≤ 256) (hbase : base ≤ W.heap.size)
    (hN : ∀ (v9 : Value) (wx : World) (y46 y47 y48 y49 y50 y51 y52 y53 y54 y55 y56 y57 y58 y59 : Value), (if y ≤ cut then IOwn wx base v9 (ints (ns ++ [i])) else IOwn wx base v9 (ints ns)) → Below base W wx → Q .normal ⟨#[x0, .int .i64 (j : Int), .int .i64 cut, .pointer (some ⟨g, 0, none⟩), x4, x5, x6, x7, x8, v9, .int .i64 (i : Int), x11, x12, x13, x14, x15, x16, x17, x18, x19, x20, x21, x22, x23, x24, x25, x26, x27, x28, x29, x30, x31, x32, x33, x34, x35, x36, x37, x38, x39, x40, x41, x42, x43, x44, x45, y46, y47, y48, y49, y50, y51, y52, y53, y54, y55, y56, y57, y58, y59, x60, x61, x62, x63, x64, x65, x66], []⟩ wx) :
    Code.wp Try.prog (((Try.f21.body.bind (pcBlk 1)).bind (pcFrom 10)).getD .skip) Q ⟨#[x0, .int .i64 (j : Int), .int .i64 cut, .pointer (some ⟨g, 0, none⟩), x4, x5, x6, x7, x8, sv, .int .i64 (i : Int), x11, x12, x13, x14, x15, x16, x17, x18, x19, x20, x21, x22, x23, x24, x25, x26, x27, x28, x29, x30, x31, x32, x33, x34, x35, x36, x37, x38, x39, x40, x41, x42, x43, x44, x45, x46, x47, x48, x49, x50, x51, x52, x53, x54, x55, x56, x57, x58, x59, x60, x61, x62, x63, x64, x65, x66], []⟩ W := by
  conv => arg 2; whnf
  have HN : Hid (∀ (v9 : Value) (wx : World) (y46 y47 y48 y49 y50 y51 y52 y53 y54 y55 y56 y57 y58 y59 : Value), (if y ≤ cut then IOwn wx base v9 (ints (ns ++ [i])) else IOwn wx base v9 (ints ns)) → Below base W wx → Q .normal ⟨#[x0, .int .i64 (j : Int), .int .i64 cut, .pointer (some ⟨g, 0, none⟩), x4, x5, x6, x7, x8, v9, .int .i64 (i : Int), x11, x12, x13, x14, x15, x16, x17, x18, x19, x20, x21, x22, x23, x24, x25, x26, x27, x28, x29, x30, x31, x32, x33, x34, x35, x36, x37, x38, x39, x40, x41, x42, x43, x44, x45, y46, y47, y48, y49, y50, y51, y52, y53, y54, y55, y56, y57, y58, y59, x60, x61, x62, x63, x64, x65, x66], []⟩ wx) := hN
  clear hN
  have f1 : (j : Int) < (l2 : Int) := by omega
  have f10 : (0 : Int) ≤ (j : Int) := by omega
  have f2 : (i : Int) < (lc : Int) := by omega
  have f20 : (0 : Int) ≤ (i : Int) := by omega
  by_cases h1 : y ≤ cut
  · have d1 : decide (y ≤ cut) = true := decide_eq_true h1
    have hlit := balloc W (.cells #[.int .i64 (i : Int)] 3)
    have hO2 := hO.alloc (.cells #[.int .i64 (i : Int)] 3)
    have hlen : (ints ns).length < 1000000 := by rw [ints_len]; omega
    have hbs : base ≤ (W.alloc (.cells #[.int .i64 (i : Int)] 3)).heap.size := Nat.le_trans hbase hlit.size
    have HIf : Hid (y ≤ cut ∧ base ≤ W.heap.size) := ⟨h1, hbase⟩
    clear hO hn h1 hj hi
    go_wp2_with (at_builtin; refine wpList_appI1 _ rfl _ _ 22 rfl Try.underlying22 base _ _ rfl hO2 ⟨W.heap.size, 0, none⟩ (i : Int) rfl ?c1 hlen hbs ?_)
    (try case c1 => simp)
    intro v5 w5 hO5 hg5
    have HB5 : Hid (Below base W w5) := (hlit.mono HIf.out.2).trans ⟨hg5.os, hg5.tape, hg5.output, hg5.size, fun q hq => hg5.block q (Nat.lt_of_lt_of_le hq hbs) (fun e => by have := (World.ownsRow.lt hO2 q e.symm).1; omega)⟩
    have HO5 : Hid (if y ≤ cut then IOwn w5 base v5 (ints (ns ++ [i])) else IOwn w5 base v5 (ints ns)) := by
      show (if y ≤ cut then IOwn w5 base v5 (ints (ns ++ [i])) else IOwn w5 base v5 (ints ns))
      rw [if_pos HIf.out.1, ints_snoc15]
      exact hO5
    clear hO2 hO5 hg5 hbs hlen hlit hbase c2 m2 m3
    go_wp2_with fail
    exact HN.out _ _ _ _ _ _ _ _ _ _ _ _ _ _ _ _ HO5.out HB5.out
  · have d1 : decide (y ≤ cut) = false := decide_eq_false h1
    have HX : Hid (if y ≤ cut then IOwn W base sv (ints (ns ++ [i])) else IOwn W base sv (ints ns)) := by
      show (if y ≤ cut then IOwn W base sv (ints (ns ++ [i])) else IOwn W base sv (ints ns))
      rw [if_neg h1]
      exact hO
    clear h1 hO hn
    go_wp2_with fail
    exact HN.out _ _ _ _ _ _ _ _ _ _ _ _ _ _ _ _ HX.out (Below.refl _ _)

set_option maxRecDepth 100000 in
set_option maxHeartbeats 12800000 in
theorem lf_p9 {x0 x1 x2 x3 x4 x5 x6 x7 x8 x9 x11 x12 x13 x14 x15 x16 x17 x18 x19 x20 x21 x22 x23 x24 x25 x26 x27 x28 x29 x30 x31 x32 x33 x34 x35 x36 x37 x38 x39 x40 x41 x42 x43 x44 x45 x46 x47 x48 x49 x50 x51 x52 x53 x54 x55 x56 x57 x58 x59 x60 x61 x62 x63 x64 x65 x66 : Value} {Q : Exit → Act → World → Prop} {W : World} {i : Nat} (h : i < 9223372036854775807)
    (hN : ∀ (y44 y45 : Value), Q .normal ⟨#[x0, x1, x2, x3, x4, x5, x6, x7, x8, x9, .int .i64 ((i + 1 : Nat) : Int), x11, x12, x13, x14, x15, x16, x17, x18, x19, x20, x21, x22, x23, x24, x25, x26, x27, x28, x29, x30, x31, x32, x33, x34, x35, x36, x37, x38, x39, x40, x41, x42, x43, y44, y45, x46, x47, x48, x49, x50, x51, x52, x53, x54, x55, x56, x57, x58, x59, x60, x61, x62, x63, x64, x65, x66], []⟩ W) :
    Code.wp Try.prog (((Try.f21.body.bind (pcLoop 0)).bind (pcAt 9)).getD .skip) Q ⟨#[x0, x1, x2, x3, x4, x5, x6, x7, x8, x9, .int .i64 (i : Int), x11, x12, x13, x14, x15, x16, x17, x18, x19, x20, x21, x22, x23, x24, x25, x26, x27, x28, x29, x30, x31, x32, x33, x34, x35, x36, x37, x38, x39, x40, x41, x42, x43, x44, x45, x46, x47, x48, x49, x50, x51, x52, x53, x54, x55, x56, x57, x58, x59, x60, x61, x62, x63, x64, x65, x66], []⟩ W := by
  conv => arg 2; whnf
  have HN : Hid (∀ (y44 y45 : Value), Q .normal ⟨#[x0, x1, x2, x3, x4, x5, x6, x7, x8, x9, .int .i64 ((i + 1 : Nat) : Int), x11, x12, x13, x14, x15, x16, x17, x18, x19, x20, x21, x22, x23, x24, x25, x26, x27, x28, x29, x30, x31, x32, x33, x34, x35, x36, x37, x38, x39, x40, x41, x42, x43, y44, y45, x46, x47, x48, x49, x50, x51, x52, x53, x54, x55, x56, x57, x58, x59, x60, x61, x62, x63, x64, x65, x66], []⟩ W) := hN
  clear hN
  have e : ((i + 1 : Nat) : Int) = (i : Int) + 1 := by omega
  rw [e] at HN
  go_wp2_with fail
  exact HN.out  _ _ 

set_option maxRecDepth 100000 in
set_option maxHeartbeats 12800000 in
theorem lf_l0 {x0 x4 x5 x7 x8 x10 x11 x12 x13 x14 x15 x16 x17 x18 x19 x20 x21 x22 x23 x24 x25 x26 x27 x28 x29 x30 x31 x32 x33 x34 x35 x36 x37 x38 x39 x40 x41 x42 x43 x44 x45 x46 x47 x48 x49 x50 x51 x52 x53 x54 x55 x56 x57 x58 x59 x60 x61 x62 x63 x64 x65 x66 : Value} {Q : Exit → Act → World → Prop} {w W : World} {g R j : Nat} {v : TV} {t : Tab} {cut : Int} (h : LfAt w g R v t W) (hj : j < v.l2) (hlen : (t.cols.getD j []).length = v.l0) (h256 : v.l0 ≤ 256)
    (hN : ∀ (v9 : Value) (wx : World) (y10 y39 y40 y41 y42 y43 y44 y45 y46 y47 y48 y49 y50 y51 y52 y53 y54 y55 y56 y57 y58 y59 : Value), LfAt w g R v t wx → IOwn wx W.heap.size v9 (ints (numsOfS v.l0 (leftF t (j : Int) cut))) → Q .normal ⟨#[x0, .int .i64 (j : Int), .int .i64 cut, .pointer (some ⟨g, 0, none⟩), x4, x5, .pointer (some ⟨R, 0, none⟩), x7, x8, v9, y10, x11, x12, x13, x14, x15, x16, x17, x18, x19, x20, x21, x22, x23, x24, x25, x26, x27, x28, x29, x30, x31, x32, x33, x34, x35, x36, x37, x38, y39, y40, y41, y42, y43, y44, y45, y46, y47, y48, y49, y50, y51, y52, y53, y54, y55, y56, y57, y58, y59, x60, x61, x62, x63, x64, x65, x66], []⟩ wx) :
    Code.wp Try.prog ((Try.f21.body.bind (pcAt 7)).getD .skip) Q ⟨#[x0, .int .i64 (j : Int), .int .i64 cut, .pointer (some ⟨g, 0, none⟩), x4, x5, .pointer (some ⟨R, 0, none⟩), x7, x8, .slice none 0 0, x10, x11, x12, x13, x14, x15, x16, x17, x18, x19, x20, x21, x22, x23, x24, x25, x26, x27, x28, x29, x30, x31, x32, x33, x34, x35, x36, x37, x38, x39, x40, x41, x42, x43, x44, x45, x46, x47, x48, x49, x50, x51, x52, x53, x54, x55, x56, x57, x58, x59, x60, x61, x62, x63, x64, x65, x66], []⟩ W := by
  conv => arg 2; whnf
  have HN : Hid (∀ (v9 : Value) (wx : World) (y10 y39 y40 y41 y42 y43 y44 y45 y46 y47 y48 y49 y50 y51 y52 y53 y54 y55 y56 y57 y58 y59 : Value), LfAt w g R v t wx → IOwn wx W.heap.size v9 (ints (numsOfS v.l0 (leftF t (j : Int) cut))) → Q .normal ⟨#[x0, .int .i64 (j : Int), .int .i64 cut, .pointer (some ⟨g, 0, none⟩), x4, x5, .pointer (some ⟨R, 0, none⟩), x7, x8, v9, y10, x11, x12, x13, x14, x15, x16, x17, x18, x19, x20, x21, x22, x23, x24, x25, x26, x27, x28, x29, x30, x31, x32, x33, x34, x35, x36, x37, x38, y39, y40, y41, y42, y43, y44, y45, y46, y47, y48, y49, y50, y51, y52, y53, y54, y55, y56, y57, y58, y59, x60, x61, x62, x63, x64, x65, x66], []⟩ wx) := hN
  clear hN
  refine pcSeq (fun Q1 n1 r1 _ => ?_)
  go_wp2_with fail
  refine n1 _ _ (pcBlock (fun Q2 n2 e2 r2 => ?_))
  go_loopw [9, 10] (fun v9 v10 wr => ∃ i : Nat, v10 = .int .i64 (i : Int) ∧ i ≤ v.l0 ∧ Below W.heap.size W wr ∧ IOwn wr W.heap.size v9 (ints (numsOfS i (leftF t (j : Int) cut)))) (fun _ v10 _ => v.l0 - (intOf v10).toNat)
  case atStart => exact ⟨0, rfl, Nat.zero_le _, Below.refl _ _, IOwn.nil _ _⟩
  case round =>
    obtain ⟨i, rfl, hi, hb, hO⟩ := hrel
    have h1 := h.grow hb
    refine pcSeq (fun Q3 n3 r3 e3 => lf_t8 h1.var hi ?_ ?_)
    · intros
      rename_i hlt
      refine n3 _ _ (pcSeq (fun Q4 n4 r4 e4 => pcBlock (fun Q5 n5 e5 r5 => ?_)))
      have c2 := h1.var.cells.2.2.1
      obtain ⟨b2, o2, pc, lc, kc, q2, m2, hcol⟩ := h1.tab.cols.at hj
      obtain rfl : lc = v.l0 := hcol.hlen.symm.trans hlen
      obtain ⟨bc, oc, rfl, m3⟩ := hcol.at (i := i) hlt
      rw [q2] at c2
      have hnl := numsOfS_len i (leftF t (j : Int) cut)
      refine lf_p10 c2 m2 m3 hj hlt hO (by omega) hb.size ?_
      intro v9 wx
      intros
      rename_i hif hbx
      refine n5 _ _ (n4 _ _ (lf_p9 (by omega) ?_))
      intros
      dsimp only [Exit.then]
      go_roundw
      case rel =>
        refine ⟨i + 1, by go_num, hlt, hb.trans hbx, ?_⟩
        rw [numsOfS_next]
        by_cases c : (t.cols.getD j []).getD i 0 ≤ cut
        · rw [if_pos (show leftF t (j : Int) cut i = true from decide_eq_true c)]
          rw [if_pos c] at hif
          exact hif
        · rw [if_neg (show ¬ leftF t (j : Int) cut i = true by rw [show leftF t (j : Int) cut i = false from decide_eq_false c]; simp)]
          rw [if_neg c] at hif
          exact hif
      case measure => simp [intOf]; omega
    · intros
      rename_i he
      subst he
      exact e3 _ _ _ (e2 _ _ (HN.out _ _ _ _ _ _ _ _ _ _ _ _ _ _ _ _ _ _ _ _ _ _ _ _ h1 hO))

set_option maxRecDepth 100000 in
set_option maxHeartbeats 12800000 in
theorem lf_p12 {x0 x1 x2 x4 x5 x7 x8 x10 x11 x12 x13 x14 x15 x16 x17 x18 x19 x20 x21 x22 x23 x24 x25 x26 x27 x28 x29 x30 x31 x32 x33 x34 x35 x36 x37 x38 x39 x40 x41 x42 x43 x44 x45 x46 x47 x48 x49 x50 x51 x52 x53 x54 x55 x56 x57 x58 x59 x60 x61 x62 x63 x64 x65 x66 : Value} {Q : Exit → Act → World → Prop} {W : World} {g R l c : Nat} {v : TV} {a : Option Addr} {xs : List Int} (hr : W.heap[R]? = some (.cells #[.int .i64 0, .slice none 0 0] 42 (0, 0))) (hv : TVar W g v) (hL : Lsts W a l c xs) (hl : l ≤ 256)
    (hR : ∀ (N : Int) (b : Option Addr) (m k : Nat) (ws : List Int) (err : Int) (wx : World) (y60 y61 y62 y63 y64 y65 y66 : Value), ResOf (v.l0 : Int) xs N ws err → Nums wx b m k ws → Below W.heap.size W wx → Q .ret ⟨#[x0, x1, x2, .pointer (some ⟨g, 0, none⟩), x4, x5, .pointer (some ⟨R, 0, none⟩), .int .i64 err, x8, .slice a l c, x10, x11, x12, x13, x14, x15, x16, x17, x18, x19, x20, x21, x22, x23, x24, x25, x26, x27, x28, x29, x30, x31, x32, x33, x34, x35, x36, x37, x38, x39, x40, x41, x42, x43, x44, x45, x46, x47, x48, x49, x50, x51, x52, x53, x54, x55, x56, x57, x58, x59, y60, y61, y62, y63, y64, y65, y66], []⟩ ((wx.setCell ⟨R, 0, none⟩ (.int .i64 N)).setCell ⟨R, 1, none⟩ (.slice b m k))) :
    Code.wp Try.prog ((Try.f21.body.bind (pcFrom 12)).getD .skip) Q ⟨#[x0, x1, x2, .pointer (some ⟨g, 0, none⟩), x4, x5, .pointer (some ⟨R, 0, none⟩), x7, x8, .slice a l c, x10, x11, x12, x13, x14, x15, x16, x17, x18, x19, x20, x21, x22, x23, x24, x25, x26, x27, x28, x29, x30, x31, x32, x33, x34, x35, x36, x37, x38, x39, x40, x41, x42, x43, x44, x45, x46, x47, x48, x49, x50, x51, x52, x53, x54, x55, x56, x57, x58, x59, x60, x61, x62, x63, x64, x65, x66], []⟩ W := by
  conv => arg 2; whnf
  have HR : Hid (∀ (N : Int) (b : Option Addr) (m k : Nat) (ws : List Int) (err : Int) (wx : World) (y60 y61 y62 y63 y64 y65 y66 : Value), ResOf (v.l0 : Int) xs N ws err → Nums wx b m k ws → Below W.heap.size W wx → Q .ret ⟨#[x0, x1, x2, .pointer (some ⟨g, 0, none⟩), x4, x5, .pointer (some ⟨R, 0, none⟩), .int .i64 err, x8, .slice a l c, x10, x11, x12, x13, x14, x15, x16, x17, x18, x19, x20, x21, x22, x23, x24, x25, x26, x27, x28, x29, x30, x31, x32, x33, x34, x35, x36, x37, x38, x39, x40, x41, x42, x43, x44, x45, x46, x47, x48, x49, x50, x51, x52, x53, x54, x55, x56, x57, x58, x59, y60, y61, y62, y63, y64, y65, y66], []⟩ ((wx.setCell ⟨R, 0, none⟩ (.int .i64 N)).setCell ⟨R, 1, none⟩ (.slice b m k))) := hR
  clear hR
  have c0 := hv.cells.1
  have HR2 : Hid (∀ wx, Below W.heap.size W wx → (wx.cell? ⟨R, 0, none⟩ = some (.int .i64 0) ∧ wx.cell? ⟨R, 1, none⟩ = some (.slice none 0 0)) ∧ wx.frozen? ⟨R, 0, none⟩ = false ∧ wx.frozen? ⟨R, 1, none⟩ = false) := fun wx hb => by
    have e := (hb.block R (Array.getElem?_eq_some_iff.1 hr).1).trans hr
    exact ⟨⟨by rw [cell_of_row _ _ _ _ _ _ e]; rfl, by rw [cell_of_row _ _ _ _ _ _ e]; rfl⟩, frozen_of_row _ _ _ _ _ e, frozen_of_row _ _ _ _ _ e⟩
  have HC := (show Hid _ from r14of_any (v.l0 : Int) a l c xs W hL (by omega))
  clear hv hL hr hl
  go_wp2_with fail
  refine Calls.mono HC.out ?_
  rintro e w2 ⟨N, b, m, k, ws, err, rfl, hN, hres, hb⟩
  obtain ⟨⟨r0, r1⟩, f0, f1⟩ := HR2.out w2 hb
  have HB : Hid (ResOf (v.l0 : Int) xs N ws err ∧ Nums w2 b m k ws ∧ Below W.heap.size W w2) := ⟨hres, hN, hb⟩
  clear hN hres hb HC HR2 c0
  dsimp only
  go_wp2_with fail
  exact HR.out _ _ _ _ _ _ _ _ _ _ _ _ _ _ HB.out.1 HB.out.2.1 HB.out.2.2

set_option maxRecDepth 100000 in
theorem lf_ret {x0 x1 x2 x3 x4 x5 x8 x9 x10 x11 x12 x13 x14 x15 x16 x17 x18 x19 x20 x21 x22 x23 x24 x25 x26 x27 x28 x29 x30 x31 x32 x33 x34 x35 x36 x37 x38 x39 x40 x41 x42 x43 x44 x45 x46 x47 x48 x49 x50 x51 x52 x53 x54 x55 x56 x57 x58 x59 x60 x61 x62 x63 x64 x65 x66 : Value} {N er : Int} {a : Option Addr} {l c : Nat} {R : Nat} {post : Ending → World → Prop} {W : World} (r0 : W.cell? ⟨R, 0, none⟩ = some (.int .i64 N)) (r1 : W.cell? ⟨R, 1, none⟩ = some (.slice a l c)) (h : post (.returned (.tuple #[.agg #[.int .i64 N, .slice a l c], .int .i64 er])) W) : bodyPost Try.prog Try.f21 post .ret ⟨#[x0, x1, x2, x3, x4, x5, .pointer (some ⟨R, 0, none⟩), .int .i64 er, x8, x9, x10, x11, x12, x13, x14, x15, x16, x17, x18, x19, x20, x21, x22, x23, x24, x25, x26, x27, x28, x29, x30, x31, x32, x33, x34, x35, x36, x37, x38, x39, x40, x41, x42, x43, x44, x45, x46, x47, x48, x49, x50, x51, x52, x53, x54, x55, x56, x57, x58, x59, x60, x61, x62, x63, x64, x65, x66], []⟩ W :=
  bodyPost_ret (v := .tuple #[.agg #[.int .i64 N, .slice a l c], .int .i64 er]) (by simp [results, Try.results21, go_sem, r0, r1]) rfl h

/-- What Left makes. -/
def LeftT15 (t : Tab) (col cut : Int) (w : World) (e : Ending) (w' : World) : Prop := ∃ N a l c ws err, e = .returned (.tuple #[.agg #[.int .i64 N, .slice a l c], .int .i64 err]) ∧ Nums w' a l c ws ∧ ResLeft t col cut err N ws ∧ Below w.heap.size w w'
theorem inList_nums15 {n : Nat} {f : Nat → Bool} (i : Nat) (hi : i < n) : inList (ints (numsOfS n f)) i = f i := by
  unfold inList
  have e : ((i : Int) ∈ ints (numsOfS n f)) ↔ f i = true := by
    unfold ints
    rw [List.mem_map]
    constructor
    · rintro ⟨k, h1, h2⟩
      obtain rfl : k = i := by omega
      exact ((numsOfS_mem n f k).1 h1).2
    · intro h
      exact ⟨i, (numsOfS_mem n f i).2 ⟨hi, h⟩, rfl⟩
  by_cases c : f i = true
  · rw [c]
    simpa using e.2 c
  · rw [Bool.not_eq_true] at c
    rw [c]
    rw [decide_eq_false]
    intro q
    have := e.1 q
    rw [c] at this
    cases this
theorem put2_cells15 {W : World} {R : Nat} {c0 c1 x y : Value} (hr : W.heap[R]? = some (.cells #[c0, c1] 42 (0, 0))) : ((W.setCell ⟨R, 0, none⟩ x).setCell ⟨R, 1, none⟩ y).cell? ⟨R, 0, none⟩ = some x ∧ ((W.setCell ⟨R, 0, none⟩ x).setCell ⟨R, 1, none⟩ y).cell? ⟨R, 1, none⟩ = some y := by
  have k1 := heap_setCell_same W R 0 _ _ x hr
  have k2 := heap_setCell_same _ R 1 _ _ y k1
  exact ⟨by rw [cell_of_row _ _ _ _ _ _ k2]; rfl, by rw [cell_of_row _ _ _ _ _ _ k2]; rfl⟩
theorem Nums.none15 (w : World) : Nums w none 0 0 [] := ⟨rfl, Nat.le_refl _, Nat.zero_le _, fun h => absurd h (Nat.lt_irrefl _), fun x hx => by cases hx⟩
theorem Nums.putR15 {W : World} {R : Nat} {a : Option Addr} {l c : Nat} {ws : List Int} {x y : Value} {c0 c1 : Value} (h : Nums W a l c ws) (hr : W.heap[R]? = some (.cells #[c0, c1] 42 (0, 0))) (hx : ∀ z, c0 ≠ .int .u64 z) (hy : ∀ z, c1 ≠ .int .u64 z) : Nums ((W.setCell ⟨R, 0, none⟩ x).setCell ⟨R, 1, none⟩ y) a l c ws := by
  refine ⟨h.hlen, h.hcap, h.hmax, fun hp => ?_, h.digs⟩
  obtain ⟨b, off, e, hc⟩ := h.cells hp
  refine ⟨b, off, e, fun i hi => ?_⟩
  have hne : b ≠ R := fun q => by
    subst q
    have k := hc i hi
    rw [cell_of_row _ _ _ _ _ _ hr] at k
    rcases Nat.lt_or_ge (off + i) 2 with c | c
    · have : off + i = 0 ∨ off + i = 1 := by omega
      rcases this with c | c
      · rw [c] at k
        exact hx _ (by simpa using k)
      · rw [c] at k
        exact hy _ (by simpa using k)
    · rw [Array.getElem?_eq_none (by simpa using c)] at k
      cases k
  rw [World.cell?_setCell_other _ _ _ _ (fun q => hne (congrArg Addr.block q).symm), World.cell?_setCell_other _ _ _ _ (fun q => hne (congrArg Addr.block q).symm)]
  exact hc i hi
set_option maxRecDepth 100000 in
set_option maxHeartbeats 3200000 in
theorem r15left_any (v : TV) (t : Tab) (col cut : Int) (w : World) (h : TabAt w v t) : Calls Try.prog 21 #[.agg #[.slice v.p0 v.l0 v.c0, .slice v.p1 v.l1 v.c1, .slice v.p2 v.l2 v.c2], .int .i64 col, .int .i64 cut] w fun e w' => LeftT15 t col cut w e w' := by
  go_enter Try.func21, Try.ntmps21
  refine pcSeq (fun Q0 n0 r0 _ => lf_p0 ?_)
  intros
  have hb1 := balloc w (.cells v.cells 25)
  have hb2 := balloc (w.alloc (.cells v.cells 25)) (.cells #[.int .i64 0, .slice none 0 0] 42)
  have hr : ((w.alloc (.cells v.cells 25)).alloc (.cells #[.int .i64 0, .slice none 0 0] 42)).heap[w.heap.size + 1]? = some (.cells #[.int .i64 0, .slice none 0 0] 42 (0, 0)) := by
    have := heap_alloc_new (w.alloc (.cells v.cells 25)) (.cells #[.int .i64 0, .slice none 0 0] 42)
    simpa using this
  have hA : LfAt w w.heap.size (w.heap.size + 1) v t ((w.alloc (.cells v.cells 25)).alloc (.cells #[.int .i64 0, .slice none 0 0] 42)) := ⟨(TVar.new w v).below hb2, (h.below hb1).below hb2, hr, Nat.le_succ _, bthen hb1 hb2⟩
  refine n0 _ _ (pcSeq (fun Q1 n1 r1 _ => lf_p1 hA.var hA.tab ?_))
  intro b w1
  intros
  rename_i hb hw1
  have h1 := hA.grow hw1
  refine n1 _ _ (pcSeq (fun Q2 n2 r2 _ => lf_p2 h1.r ?_ ?_))
  · intros
    rename_i hbt
    have hok := hb.1 hbt
    have hl : v.l1 = v.l2 := by rw [← h.bins.hlen, ← h.cols.hlen]; exact hok.len
    refine n2 _ _ (pcSeq (fun Q3 n3 r3 _ => lf_p4 h1.r h1.var h1.tab hl ?_ ?_))
    · intros
      rename_i harg
      obtain ⟨j, rfl⟩ : ∃ j : Nat, col = (j : Int) := ⟨col.toNat, by have := harg.1; omega⟩
      have hj : j < t.cols.length := by have := harg.2.1; omega
      have h256 : v.l0 ≤ 256 := by rw [← h.ids.hlen]; exact hok.ids.few
      refine n3 _ _ (pcSeq (fun Q4 n4 r4 _ => lf_p6 ?_))
      intros
      refine n4 _ _ (pcSeq (fun Q5 n5 r5 _ => lf_l0 h1 (by rw [← h.cols.hlen]; exact hj) (by rw [← h.ids.hlen]; exact (hok.col j hj).len) h256 ?_))
      intro v9 w2
      intros
      rename_i h2 hO
      have hnl := numsOfS_len v.l0 (leftF t (j : Int) cut)
      obtain ⟨a, cp, rfl, hL, -⟩ := hO.lsts (fun x hx => by
        unfold ints at hx
        obtain ⟨n, hn, rfl⟩ := List.mem_map.1 hx
        have := ((numsOfS_mem _ _ n).1 hn).1
        omega)
      refine n5 _ _ (lf_p12 h2.r h2.var hL (by rw [ints_len]; omega) ?_)
      intro N p m k ws err w3
      intros
      rename_i hres hN hb3
      have h3 := h2.grow hb3
      obtain ⟨z0, z1⟩ := put2_cells15 (x := .int .i64 N) (y := .slice p m k) h3.r
      refine lf_ret z0 z1 ⟨N, p, m, k, ws, err, rfl, hN.putR15 h3.r (fun z e => by cases e) (fun z e => by cases e), .inr (.inr ⟨hok, harg, ?_⟩), put2_below h3.below h3.new _ _⟩
      have hin : ∀ x, x ∈ ints (numsOfS v.l0 (leftF t (j : Int) cut)) → 0 ≤ x ∧ x < (v.l0 : Int) := fun x hx => by
        unfold ints at hx
        obtain ⟨n, hn, rfl⟩ := List.mem_map.1 hx
        have := ((numsOfS_mem _ _ n).1 hn).1
        omega
      rcases hres with ⟨hbad, _⟩ | ⟨_, e1, hs, e2⟩
      · rcases hbad with q | q | ⟨x, hx, q⟩
        · omega
        · omega
        · have := hin x hx
          omega
      · refine ⟨e2, by rw [e1, h.ids.hlen], ?_⟩
        rw [h.ids.hlen]
        exact hs.congr (fun i hi => inList_nums15 i hi)
    · intros
      rename_i hno
      obtain ⟨z0, z1⟩ := put2_cells15 (x := .int .i64 0) (y := .slice none 0 0) h1.r
      exact r3 _ _ (lf_ret z0 z1 ⟨0, none, 0, 0, [], 1, rfl, Nums.none15 _, .inr (.inl ⟨hok, hno, rfl, rfl, rfl⟩), put2_below h1.below h1.new _ _⟩)
  · intros
    rename_i hbf
    obtain ⟨z0, z1⟩ := put2_cells15 (x := .int .i64 0) (y := .slice none 0 0) h1.r
    exact r2 _ _ (lf_ret z0 z1 ⟨0, none, 0, 0, [], 20, rfl, Nums.none15 _, .inl ⟨fun q => (by rw [hb.2 q] at hbf; cases hbf), rfl, rfl, rfl⟩, put2_below h1.below h1.new _ _⟩)
end Go.Proofs.Ytaiikhbfnfcalaa

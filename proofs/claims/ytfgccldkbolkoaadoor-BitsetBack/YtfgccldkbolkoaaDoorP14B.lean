/-
  BitsetBack: its walk. Written by mk/p14laws.py.
-/
import Derived.Test.YtfgccldkbolkoaaDoorP14G
namespace Go.Proofs.YtfgccldkbolkoaaDoor
open Go.RowKit

set_option maxRecDepth 100000 in
set_option maxHeartbeats 12800000 in
theorem bb_p0 {x1 x2 x3 x4 x5 x6 x7 x8 x9 x10 x11 x12 x13 x14 x15 x16 x17 x18 x19 x20 x21 x22 x23 x24 x25 x26 x27 x28 x29 x30 x31 x32 x33 x34 x35 x36 x37 x38 x39 x40 x41 x42 x43 x44 x45 x46 x47 x48 x49 x50 x51 x52 x53 x54 : Value} {Q : Exit → Act → World → Prop} {W : World} {N : Int} {a : Option Addr} {l c : Nat} 
    (hN : Q .normal ⟨#[.agg #[.int .i64 N, .slice a l c], .pointer (some ⟨W.heap.size, 0, none⟩), .bool false, x3, x4, x5, x6, x7, x8, x9, x10, x11, x12, x13, x14, x15, x16, x17, x18, x19, x20, x21, x22, x23, x24, x25, x26, x27, x28, x29, x30, x31, x32, x33, x34, x35, x36, x37, x38, x39, x40, x41, x42, x43, x44, x45, x46, x47, x48, x49, x50, x51, x52, x53, x54], []⟩ (W.alloc (.cells #[.int .i64 N, .slice a l c] 24))) :
    Code.wp Tryd.prog ((Tryd.f4.body.bind (pcAt 0)).getD .skip) Q ⟨#[.agg #[.int .i64 N, .slice a l c], x1, x2, x3, x4, x5, x6, x7, x8, x9, x10, x11, x12, x13, x14, x15, x16, x17, x18, x19, x20, x21, x22, x23, x24, x25, x26, x27, x28, x29, x30, x31, x32, x33, x34, x35, x36, x37, x38, x39, x40, x41, x42, x43, x44, x45, x46, x47, x48, x49, x50, x51, x52, x53, x54], []⟩ W := by
  conv => arg 2; whnf
  have HN : Hid (Q .normal ⟨#[.agg #[.int .i64 N, .slice a l c], .pointer (some ⟨W.heap.size, 0, none⟩), .bool false, x3, x4, x5, x6, x7, x8, x9, x10, x11, x12, x13, x14, x15, x16, x17, x18, x19, x20, x21, x22, x23, x24, x25, x26, x27, x28, x29, x30, x31, x32, x33, x34, x35, x36, x37, x38, x39, x40, x41, x42, x43, x44, x45, x46, x47, x48, x49, x50, x51, x52, x53, x54], []⟩ (W.alloc (.cells #[.int .i64 N, .slice a l c] 24))) := hN
  clear hN
  go_wp2_with fail
  exact HN.out   

set_option maxRecDepth 100000 in
set_option maxHeartbeats 12800000 in
theorem bb_p1 {x0 x2 x3 x4 x5 x6 x7 x8 x9 x10 x11 x12 x13 x14 x15 x16 x17 x18 x19 x20 x21 x22 x23 x24 x25 x26 x27 x28 x29 x30 x31 x32 x33 x34 x35 x36 x37 x38 x39 x40 x41 x42 x43 x44 x45 x46 x47 x48 x49 x50 x51 x52 x53 x54 : Value} {Q : Exit → Act → World → Prop} {W : World} {A : Nat} {N : Int} {a : Option Addr} {l c : Nat} {ws : List Int} (ha : SetVar W A N a l c) (hx : Nums W a l c ws)
    (hN : ∀ (wx : World) (y2 y10 y11 y12 y13 : Value), Below W.heap.size W wx → Q .normal ⟨#[x0, .pointer (some ⟨A, 0, none⟩), y2, x3, x4, x5, x6, x7, x8, x9, y10, y11, y12, y13, x14, x15, x16, x17, x18, x19, x20, x21, x22, x23, x24, x25, x26, x27, x28, x29, x30, x31, x32, x33, x34, x35, x36, x37, x38, x39, x40, x41, x42, x43, x44, x45, x46, x47, x48, x49, x50, x51, x52, x53, x54], []⟩ wx)
    (hR : ∀ (wx : World) (y10 y11 y12 y13 : Value), Below W.heap.size W wx → Q .ret ⟨#[x0, .pointer (some ⟨A, 0, none⟩), .bool true, x3, x4, x5, x6, x7, x8, x9, y10, y11, y12, y13, x14, x15, x16, x17, x18, x19, x20, x21, x22, x23, x24, x25, x26, x27, x28, x29, x30, x31, x32, x33, x34, x35, x36, x37, x38, x39, x40, x41, x42, x43, x44, x45, x46, x47, x48, x49, x50, x51, x52, x53, x54], []⟩ wx) :
    Code.wp Tryd.prog ((Tryd.f4.body.bind (pcAt 1)).getD .skip) Q ⟨#[x0, .pointer (some ⟨A, 0, none⟩), x2, x3, x4, x5, x6, x7, x8, x9, x10, x11, x12, x13, x14, x15, x16, x17, x18, x19, x20, x21, x22, x23, x24, x25, x26, x27, x28, x29, x30, x31, x32, x33, x34, x35, x36, x37, x38, x39, x40, x41, x42, x43, x44, x45, x46, x47, x48, x49, x50, x51, x52, x53, x54], []⟩ W := by
  conv => arg 2; whnf
  have HN : Hid (∀ (wx : World) (y2 y10 y11 y12 y13 : Value), Below W.heap.size W wx → Q .normal ⟨#[x0, .pointer (some ⟨A, 0, none⟩), y2, x3, x4, x5, x6, x7, x8, x9, y10, y11, y12, y13, x14, x15, x16, x17, x18, x19, x20, x21, x22, x23, x24, x25, x26, x27, x28, x29, x30, x31, x32, x33, x34, x35, x36, x37, x38, x39, x40, x41, x42, x43, x44, x45, x46, x47, x48, x49, x50, x51, x52, x53, x54], []⟩ wx) := hN
  have HR : Hid (∀ (wx : World) (y10 y11 y12 y13 : Value), Below W.heap.size W wx → Q .ret ⟨#[x0, .pointer (some ⟨A, 0, none⟩), .bool true, x3, x4, x5, x6, x7, x8, x9, y10, y11, y12, y13, x14, x15, x16, x17, x18, x19, x20, x21, x22, x23, x24, x25, x26, x27, x28, x29, x30, x31, x32, x33, x34, x35, x36, x37, x38, x39, x40, x41, x42, x43, x44, x45, x46, x47, x48, x49, x50, x51, x52, x53, x54], []⟩ wx) := hR
  clear hN hR
  obtain ⟨a0, a1⟩ := ha.cells
  have m1 := hx.hcap
  have m2 := hx.hmax
  unfold maxLen at m2
  have HC := (show Hid _ from few14_any W.heap.size 1 (fun _ => l) (W.alloc (.cells #[.int .i64 N, .slice a l c] 24)) (by decide) (fun j hj => by
    obtain rfl : j = 0 := by omega
    exact ⟨a, c, by simp, m1, m2⟩))
  have HB := (show Hid _ from balloc W (.cells #[.int .i64 N, .slice a l c] 24))
  clear ha hx m1 m2
  go_wp2_with fail
  refine Calls.mono HC.out ?_
  rintro e wx ⟨z, rfl, rfl⟩
  clear HC a0 a1
  dsimp only
  cases z with
  | true =>
    clear HR
    go_wp2_with fail
    exact HN.out _ _ _ _ _ _ HB.out
  | false =>
    clear HN
    go_wp2_with fail
    exact HR.out _ _ _ _ _ HB.out

set_option maxRecDepth 100000 in
set_option maxHeartbeats 12800000 in
theorem bb_p3 {x0 x2 x3 x4 x5 x6 x7 x8 x9 x10 x11 x12 x13 x14 x15 x16 x17 x18 x19 x20 x21 x22 x23 x24 x25 x26 x27 x28 x29 x30 x31 x32 x33 x34 x35 x36 x37 x38 x39 x40 x41 x42 x43 x44 x45 x46 x47 x48 x49 x50 x51 x52 x53 x54 : Value} {Q : Exit → Act → World → Prop} {W : World} {A : Nat} {N : Int} {a : Option Addr} {l c : Nat} {ws : List Int} (hN : -9223372036854775808 ≤ N ∧ N < 9223372036854775808) (ha : SetVar W A N a l c) (hx : Nums W a l c ws)
    (hN : ∀ (z : Bool) (wx : World) (y14 y15 : Value), (z = true ↔ RightS N ws) → Below W.heap.size W wx → Q .normal ⟨#[x0, .pointer (some ⟨A, 0, none⟩), x2, .bool z, x4, x5, x6, x7, x8, x9, x10, x11, x12, x13, y14, y15, x16, x17, x18, x19, x20, x21, x22, x23, x24, x25, x26, x27, x28, x29, x30, x31, x32, x33, x34, x35, x36, x37, x38, x39, x40, x41, x42, x43, x44, x45, x46, x47, x48, x49, x50, x51, x52, x53, x54], []⟩ wx) :
    Code.wp Tryd.prog ((Tryd.f4.body.bind (pcAt 3)).getD .skip) Q ⟨#[x0, .pointer (some ⟨A, 0, none⟩), x2, x3, x4, x5, x6, x7, x8, x9, x10, x11, x12, x13, x14, x15, x16, x17, x18, x19, x20, x21, x22, x23, x24, x25, x26, x27, x28, x29, x30, x31, x32, x33, x34, x35, x36, x37, x38, x39, x40, x41, x42, x43, x44, x45, x46, x47, x48, x49, x50, x51, x52, x53, x54], []⟩ W := by
  conv => arg 2; whnf
  have HN : Hid (∀ (z : Bool) (wx : World) (y14 y15 : Value), (z = true ↔ RightS N ws) → Below W.heap.size W wx → Q .normal ⟨#[x0, .pointer (some ⟨A, 0, none⟩), x2, .bool z, x4, x5, x6, x7, x8, x9, x10, x11, x12, x13, y14, y15, x16, x17, x18, x19, x20, x21, x22, x23, x24, x25, x26, x27, x28, x29, x30, x31, x32, x33, x34, x35, x36, x37, x38, x39, x40, x41, x42, x43, x44, x45, x46, x47, x48, x49, x50, x51, x52, x53, x54], []⟩ wx) := hN
  clear hN
  obtain ⟨a0, a1⟩ := ha.cells
  have HC := (show Hid _ from r14right_any N a l c ws W hN hx)
  clear ha hx hN
  go_wp2_with fail
  refine Calls.mono HC.out ?_
  rintro e wx ⟨z, rfl, h1, h2⟩
  have HT : Hid ((z = true ↔ RightS N ws) ∧ Below W.heap.size W wx) := ⟨h1, h2⟩
  clear h1 h2 HC a0 a1
  dsimp only
  go_wp2_with fail
  exact HN.out z wx _ _ HT.out.1 HT.out.2

set_option maxRecDepth 100000 in
set_option maxHeartbeats 12800000 in
theorem bb_p4 {x0 x1 x2 x3 x4 x5 x6 x7 x8 x9 x10 x11 x12 x13 x14 x15 x16 x17 x18 x19 x20 x21 x22 x23 x24 x25 x26 x27 x28 x29 x30 x31 x32 x33 x34 x35 x36 x37 x38 x39 x40 x41 x42 x43 x44 x45 x46 x47 x48 x49 x50 x51 x52 x53 x54 : Value} {Q : Exit → Act → World → Prop} {W : World} (OK : OfOk14)
    (hN : ∀ (a : Option Addr) (l c : Nat) (err : Int) (wx : World) (y16 y17 y18 y19 y20 : Value), Below W.heap.size W wx → Q .normal ⟨#[x0, x1, x2, x3, .pointer (some ⟨wx.heap.size, 0, none⟩), .int .i64 err, x6, x7, x8, x9, x10, x11, x12, x13, x14, x15, y16, y17, y18, y19, y20, x21, x22, x23, x24, x25, x26, x27, x28, x29, x30, x31, x32, x33, x34, x35, x36, x37, x38, x39, x40, x41, x42, x43, x44, x45, x46, x47, x48, x49, x50, x51, x52, x53, x54], []⟩ (wx.alloc (.cells #[.int .i64 1, .slice a l c] 24))) :
    Code.wp Tryd.prog ((Tryd.f4.body.bind (pcAt 4)).getD .skip) Q ⟨#[x0, x1, x2, x3, x4, x5, x6, x7, x8, x9, x10, x11, x12, x13, x14, x15, x16, x17, x18, x19, x20, x21, x22, x23, x24, x25, x26, x27, x28, x29, x30, x31, x32, x33, x34, x35, x36, x37, x38, x39, x40, x41, x42, x43, x44, x45, x46, x47, x48, x49, x50, x51, x52, x53, x54], []⟩ W := by
  conv => arg 2; whnf
  have HN : Hid (∀ (a : Option Addr) (l c : Nat) (err : Int) (wx : World) (y16 y17 y18 y19 y20 : Value), Below W.heap.size W wx → Q .normal ⟨#[x0, x1, x2, x3, .pointer (some ⟨wx.heap.size, 0, none⟩), .int .i64 err, x6, x7, x8, x9, x10, x11, x12, x13, x14, x15, y16, y17, y18, y19, y20, x21, x22, x23, x24, x25, x26, x27, x28, x29, x30, x31, x32, x33, x34, x35, x36, x37, x38, x39, x40, x41, x42, x43, x44, x45, x46, x47, x48, x49, x50, x51, x52, x53, x54], []⟩ (wx.alloc (.cells #[.int .i64 1, .slice a l c] 24))) := hN
  clear hN
  have hL : Lsts (W.alloc (.cells #[.int .i64 0] 3)) (some ⟨W.heap.size, 0, none⟩) 1 1 [0] := ⟨rfl, Nat.le_refl _, by decide, fun _ => ⟨_, 0, rfl, fun i hi => by
    obtain rfl : i = 0 := by omega
    simp⟩, fun x hx => by simp at hx; omega⟩
  have HC := (show Hid _ from OK 1 (some ⟨W.heap.size, 0, none⟩) 1 1 [0] _ (by decide) hL (by decide))
  have HB := (show Hid _ from balloc W (.cells #[.int .i64 0] 3))
  clear hL
  go_wp2_with fail
  refine Calls.mono HC.out ?_
  rintro e wx ⟨N, a, l, c, us, err, rfl, h1, h2, h3⟩
  have hN := h2.one
  subst hN
  have HT : Hid (Below W.heap.size W wx) := bthen HB.out h3
  clear h1 h2 h3 HC HB
  dsimp only
  go_wp2_with fail
  exact HN.out a l c err wx _ _ _ _ _ HT.out

set_option maxRecDepth 100000 in
set_option maxHeartbeats 12800000 in
theorem bb_p5 {x0 x1 x2 x5 x6 x7 x8 x9 x10 x11 x12 x13 x14 x15 x16 x17 x18 x19 x20 x21 x22 x23 x24 x25 x26 x27 x28 x29 x30 x31 x32 x33 x34 x35 x36 x37 x38 x39 x40 x41 x42 x43 x44 x45 x46 x47 x48 x49 x50 x51 x52 x53 x54 : Value} {Q : Exit → Act → World → Prop} {W : World} {z : Bool} {u : Nat} (cu : W.cell? ⟨u, 0, none⟩ = some (.int .i64 1))
    (hN : ∀ (y2 y21 y22 y23 y24 y25 y26 y27 y28 y29 y30 : Value), z = true → Q .normal ⟨#[x0, x1, y2, .bool z, .pointer (some ⟨u, 0, none⟩), x5, x6, x7, x8, x9, x10, x11, x12, x13, x14, x15, x16, x17, x18, x19, x20, y21, y22, y23, y24, y25, y26, y27, y28, y29, y30, x31, x32, x33, x34, x35, x36, x37, x38, x39, x40, x41, x42, x43, x44, x45, x46, x47, x48, x49, x50, x51, x52, x53, x54], []⟩ W)
    (hR : ∀ (y21 y22 y23 y24 y25 y26 y27 y28 y29 y30 : Value), Q .ret ⟨#[x0, x1, .bool true, .bool z, .pointer (some ⟨u, 0, none⟩), x5, x6, x7, x8, x9, x10, x11, x12, x13, x14, x15, x16, x17, x18, x19, x20, y21, y22, y23, y24, y25, y26, y27, y28, y29, y30, x31, x32, x33, x34, x35, x36, x37, x38, x39, x40, x41, x42, x43, x44, x45, x46, x47, x48, x49, x50, x51, x52, x53, x54], []⟩ W) :
    Code.wp Tryd.prog ((Tryd.f4.body.bind (pcAt 5)).getD .skip) Q ⟨#[x0, x1, x2, .bool z, .pointer (some ⟨u, 0, none⟩), x5, x6, x7, x8, x9, x10, x11, x12, x13, x14, x15, x16, x17, x18, x19, x20, x21, x22, x23, x24, x25, x26, x27, x28, x29, x30, x31, x32, x33, x34, x35, x36, x37, x38, x39, x40, x41, x42, x43, x44, x45, x46, x47, x48, x49, x50, x51, x52, x53, x54], []⟩ W := by
  conv => arg 2; whnf
  have HN : Hid (∀ (y2 y21 y22 y23 y24 y25 y26 y27 y28 y29 y30 : Value), z = true → Q .normal ⟨#[x0, x1, y2, .bool z, .pointer (some ⟨u, 0, none⟩), x5, x6, x7, x8, x9, x10, x11, x12, x13, x14, x15, x16, x17, x18, x19, x20, y21, y22, y23, y24, y25, y26, y27, y28, y29, y30, x31, x32, x33, x34, x35, x36, x37, x38, x39, x40, x41, x42, x43, x44, x45, x46, x47, x48, x49, x50, x51, x52, x53, x54], []⟩ W) := hN
  have HR : Hid (∀ (y21 y22 y23 y24 y25 y26 y27 y28 y29 y30 : Value), Q .ret ⟨#[x0, x1, .bool true, .bool z, .pointer (some ⟨u, 0, none⟩), x5, x6, x7, x8, x9, x10, x11, x12, x13, x14, x15, x16, x17, x18, x19, x20, y21, y22, y23, y24, y25, y26, y27, y28, y29, y30, x31, x32, x33, x34, x35, x36, x37, x38, x39, x40, x41, x42, x43, x44, x45, x46, x47, x48, x49, x50, x51, x52, x53, x54], []⟩ W) := hR
  clear hN hR
  cases z with
  | true =>
    clear HR
    go_wp2_with fail
    exact HN.out  _ _ _ _ _ _ _ _ _ _ _ (by trivial)
  | false =>
    clear HN
    go_wp2_with fail
    exact HR.out  _ _ _ _ _ _ _ _ _ _ 

set_option maxRecDepth 100000 in
set_option maxHeartbeats 12800000 in
theorem bb_p7 {x0 x2 x3 x4 x5 x6 x7 x8 x9 x10 x11 x12 x13 x14 x15 x16 x17 x18 x19 x20 x21 x22 x23 x24 x25 x26 x27 x28 x29 x30 x31 x32 x33 x34 x35 x36 x37 x38 x39 x40 x41 x42 x43 x44 x45 x46 x47 x48 x49 x50 x51 x52 x53 x54 : Value} {Q : Exit → Act → World → Prop} {W : World} {A : Nat} {N : Int} {a : Option Addr} {l c : Nat} {ws : List Int} {T : World → Prop} (OK : LstOk14 T) (hT : T W) (hN : -9223372036854775808 ≤ N ∧ N < 9223372036854775808) (ha : SetVar W A N a l c) (hx : Nums W a l c ws)
    (hN : ∀ (ns : List Nat) (p : Option Addr) (n q : Nat) (wx : World) (y31 y32 : Value), n = ns.length → Lsts wx p n q (ints ns) → ResList N ws ns → Below W.heap.size W wx → Q .normal ⟨#[x0, .pointer (some ⟨A, 0, none⟩), x2, x3, x4, x5, .slice p n q, x7, x8, x9, x10, x11, x12, x13, x14, x15, x16, x17, x18, x19, x20, x21, x22, x23, x24, x25, x26, x27, x28, x29, x30, y31, y32, x33, x34, x35, x36, x37, x38, x39, x40, x41, x42, x43, x44, x45, x46, x47, x48, x49, x50, x51, x52, x53, x54], []⟩ wx) :
    Code.wp Tryd.prog ((Tryd.f4.body.bind (pcAt 7)).getD .skip) Q ⟨#[x0, .pointer (some ⟨A, 0, none⟩), x2, x3, x4, x5, x6, x7, x8, x9, x10, x11, x12, x13, x14, x15, x16, x17, x18, x19, x20, x21, x22, x23, x24, x25, x26, x27, x28, x29, x30, x31, x32, x33, x34, x35, x36, x37, x38, x39, x40, x41, x42, x43, x44, x45, x46, x47, x48, x49, x50, x51, x52, x53, x54], []⟩ W := by
  conv => arg 2; whnf
  have HN : Hid (∀ (ns : List Nat) (p : Option Addr) (n q : Nat) (wx : World) (y31 y32 : Value), n = ns.length → Lsts wx p n q (ints ns) → ResList N ws ns → Below W.heap.size W wx → Q .normal ⟨#[x0, .pointer (some ⟨A, 0, none⟩), x2, x3, x4, x5, .slice p n q, x7, x8, x9, x10, x11, x12, x13, x14, x15, x16, x17, x18, x19, x20, x21, x22, x23, x24, x25, x26, x27, x28, x29, x30, y31, y32, x33, x34, x35, x36, x37, x38, x39, x40, x41, x42, x43, x44, x45, x46, x47, x48, x49, x50, x51, x52, x53, x54], []⟩ wx) := hN
  clear hN
  obtain ⟨a0, a1⟩ := ha.cells
  have HC := (show Hid _ from OK N a l c ws W hN hx hT)
  clear ha hx hN hT
  go_wp2_with fail
  refine Calls.mono HC.out ?_
  rintro e wx ⟨ns, p, q, rfl, h1, h2, h3⟩
  obtain ⟨n, hn⟩ : ∃ n, n = ns.length := ⟨_, rfl⟩
  rw [← hn] at h1
  rw [← hn]
  have HT : Hid (n = ns.length ∧ Lsts wx p n q (ints ns) ∧ ResList N ws ns ∧ Below W.heap.size W wx) := ⟨hn, h1, h2, h3⟩
  clear h1 h2 h3 HC a0 a1 hn
  dsimp only
  go_wp2_with fail
  exact HN.out ns p n q wx _ _ HT.out.1 HT.out.2.1 HT.out.2.2.1 HT.out.2.2.2

set_option maxRecDepth 100000 in
set_option maxHeartbeats 12800000 in
theorem bb_p8 {x0 x2 x3 x4 x5 x7 x8 x9 x10 x11 x12 x13 x14 x15 x16 x17 x18 x19 x20 x21 x22 x23 x24 x25 x26 x27 x28 x29 x30 x31 x32 x33 x34 x35 x36 x37 x38 x39 x40 x41 x42 x43 x44 x45 x46 x47 x48 x49 x50 x51 x52 x53 x54 : Value} {Q : Exit → Act → World → Prop} {W : World} {A : Nat} {N : Int} {a : Option Addr} {l c : Nat} {p : Option Addr} {n q : Nat} {xs : List Int} (OK : OfOk14) (hN : -9223372036854775808 ≤ N ∧ N < 9223372036854775808) (ha : SetVar W A N a l c) (hL : Lsts W p n q xs) (hn : n ≤ 100000)
    (hN : ∀ (N' : Int) (a' : Option Addr) (l' c' : Nat) (us : List Int) (err : Int) (wx : World) (y33 y34 y35 y36 y37 y38 y39 : Value), Nums wx a' l' c' us → ResOf N xs N' us err → Below W.heap.size W wx → Q .normal ⟨#[x0, .pointer (some ⟨A, 0, none⟩), x2, x3, x4, x5, .slice p n q, .pointer (some ⟨wx.heap.size, 0, none⟩), .int .i64 err, x9, x10, x11, x12, x13, x14, x15, x16, x17, x18, x19, x20, x21, x22, x23, x24, x25, x26, x27, x28, x29, x30, x31, x32, y33, y34, y35, y36, y37, y38, y39, x40, x41, x42, x43, x44, x45, x46, x47, x48, x49, x50, x51, x52, x53, x54], []⟩ (wx.alloc (.cells #[.int .i64 N', .slice a' l' c'] 24))) :
    Code.wp Tryd.prog ((Tryd.f4.body.bind (pcAt 8)).getD .skip) Q ⟨#[x0, .pointer (some ⟨A, 0, none⟩), x2, x3, x4, x5, .slice p n q, x7, x8, x9, x10, x11, x12, x13, x14, x15, x16, x17, x18, x19, x20, x21, x22, x23, x24, x25, x26, x27, x28, x29, x30, x31, x32, x33, x34, x35, x36, x37, x38, x39, x40, x41, x42, x43, x44, x45, x46, x47, x48, x49, x50, x51, x52, x53, x54], []⟩ W := by
  conv => arg 2; whnf
  have HN : Hid (∀ (N' : Int) (a' : Option Addr) (l' c' : Nat) (us : List Int) (err : Int) (wx : World) (y33 y34 y35 y36 y37 y38 y39 : Value), Nums wx a' l' c' us → ResOf N xs N' us err → Below W.heap.size W wx → Q .normal ⟨#[x0, .pointer (some ⟨A, 0, none⟩), x2, x3, x4, x5, .slice p n q, .pointer (some ⟨wx.heap.size, 0, none⟩), .int .i64 err, x9, x10, x11, x12, x13, x14, x15, x16, x17, x18, x19, x20, x21, x22, x23, x24, x25, x26, x27, x28, x29, x30, x31, x32, y33, y34, y35, y36, y37, y38, y39, x40, x41, x42, x43, x44, x45, x46, x47, x48, x49, x50, x51, x52, x53, x54], []⟩ (wx.alloc (.cells #[.int .i64 N', .slice a' l' c'] 24))) := hN
  clear hN
  obtain ⟨a0, a1⟩ := ha.cells
  have HC := (show Hid _ from OK N p n q xs W hN hL (by omega))
  clear ha hL hn hN
  go_wp2_with fail
  refine Calls.mono HC.out ?_
  rintro e wx ⟨N', a', l', c', us, err, rfl, h1, h2, h3⟩
  have HT : Hid (Nums wx a' l' c' us ∧ ResOf N xs N' us err ∧ Below W.heap.size W wx) := ⟨h1, h2, h3⟩
  clear h1 h2 h3 HC a0 a1
  dsimp only
  go_wp2_with fail
  exact HN.out N' a' l' c' us err wx _ _ _ _ _ _ _ HT.out.1 HT.out.2.1 HT.out.2.2

set_option maxRecDepth 100000 in
set_option maxHeartbeats 12800000 in
theorem bb_p9 {x0 x2 x3 x4 x5 x6 x8 x9 x10 x11 x12 x13 x14 x15 x16 x17 x18 x19 x20 x21 x22 x23 x24 x25 x26 x27 x28 x29 x30 x31 x32 x33 x34 x35 x36 x37 x38 x39 x40 x41 x42 x43 x44 x45 x46 x47 x48 x49 x50 x51 x52 x53 x54 : Value} {Q : Exit → Act → World → Prop} {W : World} {g h : Nat} {N : Int} {a b : Option Addr} {la ca lb cb : Nat} {ws : List Int} (X0 : W.cell? ⟨g, 0, none⟩ = some (.int .i64 N)) (X1 : W.cell? ⟨g, 1, none⟩ = some (.slice a la ca)) (Y0 : W.cell? ⟨h, 0, none⟩ = some (.int .i64 N)) (Y1 : W.cell? ⟨h, 1, none⟩ = some (.slice b lb cb)) (hx : Nums W a la ca ws) (hy : Nums W b lb cb ws)
    (hN : ∀ (wx : World) (y40 y41 y42 : Value), Below W.heap.size W wx → Q .normal ⟨#[x0, .pointer (some ⟨h, 0, none⟩), x2, x3, x4, x5, x6, .pointer (some ⟨g, 0, none⟩), x8, .bool true, x10, x11, x12, x13, x14, x15, x16, x17, x18, x19, x20, x21, x22, x23, x24, x25, x26, x27, x28, x29, x30, x31, x32, x33, x34, x35, x36, x37, x38, x39, y40, y41, y42, x43, x44, x45, x46, x47, x48, x49, x50, x51, x52, x53, x54], []⟩ wx) :
    Code.wp Tryd.prog ((Tryd.f4.body.bind (pcAt 9)).getD .skip) Q ⟨#[x0, .pointer (some ⟨h, 0, none⟩), x2, x3, x4, x5, x6, .pointer (some ⟨g, 0, none⟩), x8, x9, x10, x11, x12, x13, x14, x15, x16, x17, x18, x19, x20, x21, x22, x23, x24, x25, x26, x27, x28, x29, x30, x31, x32, x33, x34, x35, x36, x37, x38, x39, x40, x41, x42, x43, x44, x45, x46, x47, x48, x49, x50, x51, x52, x53, x54], []⟩ W := by
  conv => arg 2; whnf
  have HN : Hid (∀ (wx : World) (y40 y41 y42 : Value), Below W.heap.size W wx → Q .normal ⟨#[x0, .pointer (some ⟨h, 0, none⟩), x2, x3, x4, x5, x6, .pointer (some ⟨g, 0, none⟩), x8, .bool true, x10, x11, x12, x13, x14, x15, x16, x17, x18, x19, x20, x21, x22, x23, x24, x25, x26, x27, x28, x29, x30, x31, x32, x33, x34, x35, x36, x37, x38, x39, y40, y41, y42, x43, x44, x45, x46, x47, x48, x49, x50, x51, x52, x53, x54], []⟩ wx) := hN
  clear hN
  have HC : Hid (Calls Tryd.prog 16 #[.agg #[.int .i64 N, .slice a la ca], .agg #[.int .i64 N, .slice b lb cb]] W fun e w' => e = .returned (.bool true) ∧ Below W.heap.size W w') := (r14same_any N N a b la ca lb cb ws ws W hx hy).mono fun e w' q => ⟨by rw [q.1]; simp, q.2⟩
  clear hx hy
  go_wp2_with fail
  refine Calls.mono HC.out ?_
  rintro e wx ⟨rfl, h1⟩
  have HT : Hid (Below W.heap.size W wx) := h1
  clear h1 HC X0 X1 Y0 Y1
  dsimp only
  go_wp2_with fail
  exact HN.out wx _ _ _ HT.out

set_option maxRecDepth 100000 in
set_option maxHeartbeats 12800000 in
theorem bb_p10 {x0 x2 x3 x4 x5 x7 x10 x11 x12 x13 x14 x15 x16 x17 x18 x19 x20 x21 x22 x23 x24 x25 x26 x27 x28 x29 x30 x31 x32 x33 x34 x35 x36 x37 x38 x39 x40 x41 x42 x43 x44 x45 x46 x47 x48 x49 x50 x51 x52 x53 x54 : Value} {Q : Exit → Act → World → Prop} {W : World} {A : Nat} {N : Int} {a : Option Addr} {l c : Nat} {ws : List Int} {p : Option Addr} {n q : Nat} {ns : List Nat} (OK : CntOk14) (hN : -9223372036854775808 ≤ N ∧ N < 9223372036854775808) (ha : SetVar W A N a l c) (hx : Nums W a l c ws) (hr : ResList N ws ns) (hn : n = ns.length)
    (hR : ∀ (wx : World) (y43 y44 y45 y46 y47 y48 y49 y50 y51 y52 y53 y54 : Value), Below W.heap.size W wx → Q .ret ⟨#[x0, .pointer (some ⟨A, 0, none⟩), .bool true, x3, x4, x5, .slice p n q, x7, .int .i64 0, .bool true, x10, x11, x12, x13, x14, x15, x16, x17, x18, x19, x20, x21, x22, x23, x24, x25, x26, x27, x28, x29, x30, x31, x32, x33, x34, x35, x36, x37, x38, x39, x40, x41, x42, y43, y44, y45, y46, y47, y48, y49, y50, y51, y52, y53, y54], []⟩ wx) :
    Code.wp Tryd.prog ((Tryd.f4.body.bind (pcFrom 10)).getD .skip) Q ⟨#[x0, .pointer (some ⟨A, 0, none⟩), x2, x3, x4, x5, .slice p n q, x7, .int .i64 0, .bool true, x10, x11, x12, x13, x14, x15, x16, x17, x18, x19, x20, x21, x22, x23, x24, x25, x26, x27, x28, x29, x30, x31, x32, x33, x34, x35, x36, x37, x38, x39, x40, x41, x42, x43, x44, x45, x46, x47, x48, x49, x50, x51, x52, x53, x54], []⟩ W := by
  conv => arg 2; whnf
  have HR : Hid (∀ (wx : World) (y43 y44 y45 y46 y47 y48 y49 y50 y51 y52 y53 y54 : Value), Below W.heap.size W wx → Q .ret ⟨#[x0, .pointer (some ⟨A, 0, none⟩), .bool true, x3, x4, x5, .slice p n q, x7, .int .i64 0, .bool true, x10, x11, x12, x13, x14, x15, x16, x17, x18, x19, x20, x21, x22, x23, x24, x25, x26, x27, x28, x29, x30, x31, x32, x33, x34, x35, x36, x37, x38, x39, x40, x41, x42, y43, y44, y45, y46, y47, y48, y49, y50, y51, y52, y53, y54], []⟩ wx) := hR
  clear hR
  obtain ⟨a0, a1⟩ := ha.cells
  have HC : Hid (Calls Tryd.prog 13 #[.agg #[.int .i64 N, .slice a l c]] W fun e w' => e = .returned (.int .i64 (n : Int)) ∧ Below W.heap.size W w') := (OK N a l c ws W hN hx).mono fun e w' h => by
    obtain ⟨ns', h1, h2, h3⟩ := h
    rw [← h2.unique hr] at hn
    exact ⟨by rw [h1, hn], h3⟩
  have k1 : ((n : Int) == (n : Int)) = true := by simp
  clear ha hx hN hr hn
  go_wp2_with fail
  refine Calls.mono HC.out ?_
  rintro e wx ⟨rfl, h1⟩
  have HT : Hid (Below W.heap.size W wx) := h1
  clear h1 HC a0 a1
  dsimp only
  go_wp2_with fail
  exact HR.out wx _ _ _ _ _ _ _ _ _ _ _ _ HT.out

set_option maxRecDepth 100000 in
theorem bb_ret {x0 x1 x3 x4 x5 x6 x7 x8 x9 x10 x11 x12 x13 x14 x15 x16 x17 x18 x19 x20 x21 x22 x23 x24 x25 x26 x27 x28 x29 x30 x31 x32 x33 x34 x35 x36 x37 x38 x39 x40 x41 x42 x43 x44 x45 x46 x47 x48 x49 x50 x51 x52 x53 x54 : Value}  {post : Ending → World → Prop} {W : World} (h : post (.returned (.bool true)) W) : bodyPost Tryd.prog Tryd.f4 post .ret ⟨#[x0, x1, .bool true, x3, x4, x5, x6, x7, x8, x9, x10, x11, x12, x13, x14, x15, x16, x17, x18, x19, x20, x21, x22, x23, x24, x25, x26, x27, x28, x29, x30, x31, x32, x33, x34, x35, x36, x37, x38, x39, x40, x41, x42, x43, x44, x45, x46, x47, x48, x49, x50, x51, x52, x53, x54], []⟩ W :=
  bodyPost_ret (v := .bool true) (by simp [results, Tryd.results4, go_sem]) rfl h

theorem ResOf.back {N : Int} {ws : List Int} (hR : RightS N ws) (hd : Digs 18446744073709551616 ws) {ns : List Nat} (hl : ResList N ws ns) {N' : Int} {us : List Int} {err : Int} (h : ResOf N (ints ns) N' us err) : N' = N ∧ us = ws ∧ err = 0 := by
  rcases hl with ⟨-, rfl⟩ | ⟨h0, -⟩
  · have := hR.lo
    have := hR.hi
    rcases h with ⟨h0, -, -, -⟩ | ⟨-, h1, h2, h3⟩
    · rcases h0 with e | e | ⟨x, e1, e2⟩
      · omega
      · omega
      · obtain ⟨j, hj, rfl⟩ := List.mem_map.1 e1
        have := ((numsOfS_mem _ _ _).1 hj).1
        omega
    · refine ⟨h1, (h2.congr (fun i hi => ?_)).unique (hR.set hd), h3⟩
      rw [inList_nums]
      simp [hi]
  · exact absurd hR h0
set_option maxRecDepth 100000 in
set_option maxHeartbeats 12800000 in
theorem back14_walk {T : World → Prop} (TB : ∀ w w', T w → Below w.heap.size w w' → T w') (OL : LstOk14 T) (OO : OfOk14) (OC : CntOk14) (N : Int) (a : Option Addr) (l c : Nat) (ws : List Int) (w : World) (hN : -9223372036854775808 ≤ N ∧ N < 9223372036854775808) (hx : Nums w a l c ws) (hT : T w) : Calls Tryd.prog 4 #[.agg #[.int .i64 N, .slice a l c]] w fun e w' => e = .returned (.bool true) ∧ Below w.heap.size w w' := by
  go_enter Tryd.func4, Tryd.ntmps4
  refine pcSeq (fun Q0 n0 r0 _ => bb_p0 ?_)
  have hV := balloc w (.cells #[.int .i64 N, .slice a l c] 24)
  have sa := SetVar.new w N a l c
  replace hx := hx.below hV
  refine n0 _ _ (pcSeq (fun Q1 n1 r1 _ => bb_p1 sa hx ?_ ?_))
  rotate_left
  · intro w0
    intros
    rename_i b0
    exact r1 _ _ (bb_ret ⟨rfl, bthen hV b0⟩)
  intro w0
  intros
  rename_i b0
  replace hV := bthen hV b0
  replace sa := sa.below b0
  replace hx := hx.below b0
  refine n1 _ _ (pcSeq (fun Q2 n2 r2 _ => bb_p3 hN sa hx ?_))
  intro z w1
  intros
  rename_i hz b1
  replace hV := bthen hV b1
  replace sa := sa.below b1
  replace hx := hx.below b1
  refine n2 _ _ (pcSeq (fun Q3 n3 r3 _ => bb_p4 OO ?_))
  intro a2 l2 c2 e2 w2
  intros
  rename_i b2
  have t2 := bthen b2 (balloc w2 (.cells #[.int .i64 1, .slice a2 l2 c2] 24))
  replace hV := bthen hV t2
  replace sa := sa.below t2
  replace hx := hx.below t2
  refine n3 _ _ (pcSeq (fun Q4 n4 r4 _ => bb_p5 (SetVar.new w2 1 a2 l2 c2).cells.1 ?_ ?_))
  rotate_left
  · intros
    exact r4 _ _ (bb_ret ⟨rfl, hV⟩)
  intros
  rename_i hzt
  have hRt := hz.1 hzt
  refine n4 _ _ (pcSeq (fun Q5 n5 r5 _ => bb_p7 OL (TB _ _ hT hV) hN sa hx ?_))
  intro ns p n q w3
  intros
  rename_i hn hL hRL b3
  replace hV := bthen hV b3
  replace sa := sa.below b3
  replace hx := hx.below b3
  have hnl : n ≤ 100000 := by
    rcases hRL with ⟨-, e⟩ | ⟨-, e⟩
    · have := numsOfS_len N.toNat (wbit ws)
      have := hRt.hi
      have := hRt.lo
      rw [hn, e]
      omega
    · rw [hn, e]
      exact Nat.zero_le _
  refine n5 _ _ (pcSeq (fun Q6 n6 r6 _ => bb_p8 OO hN sa hL hnl ?_))
  intro N' a' l' c' us err w4
  intros
  rename_i x4 q4 b4
  obtain ⟨rfl, rfl, rfl⟩ := ResOf.back hRt hx.word hRL q4
  have v4 := balloc w4 (.cells #[.int .i64 N', .slice a' l' c'] 24)
  have t4 := bthen b4 v4
  replace hV := bthen hV t4
  replace sa := sa.below t4
  replace hx := hx.below t4
  have s4 := SetVar.new w4 N' a' l' c'
  refine n6 _ _ (pcSeq (fun Q7 n7 r7 _ => bb_p9 s4.cells.1 s4.cells.2 sa.cells.1 sa.cells.2 (x4.below v4) hx ?_))
  intro w5
  intros
  rename_i b5
  refine n7 _ _ (bb_p10 OC hN (sa.below b5) (hx.below b5) hRL hn ?_)
  intro w6
  intros
  rename_i b6
  exact bb_ret ⟨rfl, bthen hV (bthen b5 b6)⟩
end Go.Proofs.YtfgccldkbolkoaaDoor

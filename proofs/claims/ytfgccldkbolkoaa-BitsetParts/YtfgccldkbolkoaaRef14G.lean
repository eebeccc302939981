/-
  The document's sets: both, its statements. Written by mk/r14both.py.
-/
import Derived.Test.YtfgccldkbolkoaaRef14F
namespace Go.Proofs.Ytfgccldkbolkoaa
open Go.RowKit

set_option maxRecDepth 100000 in
set_option maxHeartbeats 12800000 in
theorem bo_p0 {x2 x3 x4 x5 x6 x7 x8 x9 x10 x11 x12 x13 x14 x15 x16 x17 x18 x19 x20 x21 x22 x23 x24 x25 x26 x27 x28 x29 x30 x31 x32 x33 x34 x35 x36 x37 x38 x39 x40 x41 x42 x43 x44 x45 x46 x47 x48 x49 x50 x51 x52 x53 x54 x55 x56 x57 x58 x59 x60 x61 x62 x63 x64 x65 x66 x67 x68 x69 x70 x71 x72 x73 x74 x75 x76 x77 x78 x79 x80 x81 x82 x83 x84 : Value} {Q : Exit → Act → World → Prop} {W : World} {M K : Int} {a b : Option Addr} {la ca lb cb : Nat} 
    (hN : Q .normal ⟨#[.agg #[.int .i64 M, .slice a la ca], .agg #[.int .i64 K, .slice b lb cb], x2, x3, x4, .pointer (some ⟨W.heap.size, 0, none⟩), .pointer (some ⟨(W.heap.size + 1), 0, none⟩), x7, x8, x9, .pointer (some ⟨(W.heap.size + 2), 0, none⟩), .int .i64 0, x12, x13, x14, x15, x16, x17, x18, x19, x20, x21, x22, x23, x24, x25, x26, x27, x28, x29, x30, x31, x32, x33, x34, x35, x36, x37, x38, x39, x40, x41, x42, x43, x44, x45, x46, x47, x48, x49, x50, x51, x52, x53, x54, x55, x56, x57, x58, x59, x60, x61, x62, x63, x64, x65, x66, x67, x68, x69, x70, x71, x72, x73, x74, x75, x76, x77, x78, x79, x80, x81, x82, x83, x84], []⟩ (((W.alloc (.cells #[.int .i64 M, .slice a la ca] 25)).alloc (.cells #[.int .i64 K, .slice b lb cb] 25)).alloc (.cells #[.int .i64 0, .slice none 0 0] 25))) :
    Code.wp Try.prog ((Try.f27.body.bind (pcAt 0)).getD .skip) Q ⟨#[.agg #[.int .i64 M, .slice a la ca], .agg #[.int .i64 K, .slice b lb cb], x2, x3, x4, x5, x6, x7, x8, x9, x10, x11, x12, x13, x14, x15, x16, x17, x18, x19, x20, x21, x22, x23, x24, x25, x26, x27, x28, x29, x30, x31, x32, x33, x34, x35, x36, x37, x38, x39, x40, x41, x42, x43, x44, x45, x46, x47, x48, x49, x50, x51, x52, x53, x54, x55, x56, x57, x58, x59, x60, x61, x62, x63, x64, x65, x66, x67, x68, x69, x70, x71, x72, x73, x74, x75, x76, x77, x78, x79, x80, x81, x82, x83, x84], []⟩ W := by
  conv => arg 2; whnf
  have HN : Hid (Q .normal ⟨#[.agg #[.int .i64 M, .slice a la ca], .agg #[.int .i64 K, .slice b lb cb], x2, x3, x4, .pointer (some ⟨W.heap.size, 0, none⟩), .pointer (some ⟨(W.heap.size + 1), 0, none⟩), x7, x8, x9, .pointer (some ⟨(W.heap.size + 2), 0, none⟩), .int .i64 0, x12, x13, x14, x15, x16, x17, x18, x19, x20, x21, x22, x23, x24, x25, x26, x27, x28, x29, x30, x31, x32, x33, x34, x35, x36, x37, x38, x39, x40, x41, x42, x43, x44, x45, x46, x47, x48, x49, x50, x51, x52, x53, x54, x55, x56, x57, x58, x59, x60, x61, x62, x63, x64, x65, x66, x67, x68, x69, x70, x71, x72, x73, x74, x75, x76, x77, x78, x79, x80, x81, x82, x83, x84], []⟩ (((W.alloc (.cells #[.int .i64 M, .slice a la ca] 25)).alloc (.cells #[.int .i64 K, .slice b lb cb] 25)).alloc (.cells #[.int .i64 0, .slice none 0 0] 25))) := hN
  clear hN
  go_wp2_with fail
  exact HN.out   

set_option maxRecDepth 100000 in
set_option maxHeartbeats 12800000 in
theorem bo_p1 {x0 x1 x2 x3 x4 x6 x7 x8 x9 x10 x11 x12 x13 x14 x15 x16 x17 x18 x19 x20 x21 x22 x23 x24 x25 x26 x27 x28 x29 x30 x31 x32 x33 x34 x35 x36 x37 x38 x39 x40 x41 x42 x43 x44 x45 x46 x47 x48 x49 x50 x51 x52 x53 x54 x55 x56 x57 x58 x59 x60 x61 x62 x63 x64 x65 x66 x67 x68 x69 x70 x71 x72 x73 x74 x75 x76 x77 x78 x79 x80 x81 x82 x83 x84 : Value} {Q : Exit → Act → World → Prop} {W : World} {G : Nat} {N : Int} {a : Option Addr} {l c : Nat} {ws : List Int} (hN : -9223372036854775808 ≤ N ∧ N < 9223372036854775808) (X0 : W.cell? ⟨G, 0, none⟩ = some (.int .i64 N)) (X1 : W.cell? ⟨G, 1, none⟩ = some (.slice a l c)) (h : Nums W a l c ws)
    (hN : ∀ (z : Bool) (wx : World) (y18 y19 : Value), (z = true ↔ RightS N ws) → Below W.heap.size W wx → Q .normal ⟨#[x0, x1, x2, x3, x4, .pointer (some ⟨G, 0, none⟩), x6, x7, x8, x9, x10, x11, .bool z, x13, x14, x15, x16, x17, y18, y19, x20, x21, x22, x23, x24, x25, x26, x27, x28, x29, x30, x31, x32, x33, x34, x35, x36, x37, x38, x39, x40, x41, x42, x43, x44, x45, x46, x47, x48, x49, x50, x51, x52, x53, x54, x55, x56, x57, x58, x59, x60, x61, x62, x63, x64, x65, x66, x67, x68, x69, x70, x71, x72, x73, x74, x75, x76, x77, x78, x79, x80, x81, x82, x83, x84], []⟩ wx) :
    Code.wp Try.prog ((Try.f27.body.bind (pcAt 1)).getD .skip) Q ⟨#[x0, x1, x2, x3, x4, .pointer (some ⟨G, 0, none⟩), x6, x7, x8, x9, x10, x11, x12, x13, x14, x15, x16, x17, x18, x19, x20, x21, x22, x23, x24, x25, x26, x27, x28, x29, x30, x31, x32, x33, x34, x35, x36, x37, x38, x39, x40, x41, x42, x43, x44, x45, x46, x47, x48, x49, x50, x51, x52, x53, x54, x55, x56, x57, x58, x59, x60, x61, x62, x63, x64, x65, x66, x67, x68, x69, x70, x71, x72, x73, x74, x75, x76, x77, x78, x79, x80, x81, x82, x83, x84], []⟩ W := by
  conv => arg 2; whnf
  have HN : Hid (∀ (z : Bool) (wx : World) (y18 y19 : Value), (z = true ↔ RightS N ws) → Below W.heap.size W wx → Q .normal ⟨#[x0, x1, x2, x3, x4, .pointer (some ⟨G, 0, none⟩), x6, x7, x8, x9, x10, x11, .bool z, x13, x14, x15, x16, x17, y18, y19, x20, x21, x22, x23, x24, x25, x26, x27, x28, x29, x30, x31, x32, x33, x34, x35, x36, x37, x38, x39, x40, x41, x42, x43, x44, x45, x46, x47, x48, x49, x50, x51, x52, x53, x54, x55, x56, x57, x58, x59, x60, x61, x62, x63, x64, x65, x66, x67, x68, x69, x70, x71, x72, x73, x74, x75, x76, x77, x78, x79, x80, x81, x82, x83, x84], []⟩ wx) := hN
  clear hN
  have HC := (show Hid _ from r14right_any N a l c ws W hN h)
  clear hN h
  go_wp2_with fail
  refine Calls.mono HC.out ?_
  rintro e wx ⟨z, rfl, h1, h2⟩
  have HT : Hid ((z = true ↔ RightS N ws) ∧ Below W.heap.size W wx) := ⟨h1, h2⟩
  clear h1 h2 HC X0 X1
  dsimp only
  go_wp2_with fail
  exact HN.out z wx _ _ HT.out.1 HT.out.2

set_option maxRecDepth 100000 in
set_option maxHeartbeats 12800000 in
theorem bo_p2 {x0 x1 x2 x3 x4 x5 x7 x8 x9 x10 x11 x12 x13 x14 x15 x16 x17 x18 x19 x20 x21 x22 x23 x24 x25 x26 x27 x28 x29 x30 x31 x32 x33 x34 x35 x36 x37 x38 x39 x40 x41 x42 x43 x44 x45 x46 x47 x48 x49 x50 x51 x52 x53 x54 x55 x56 x57 x58 x59 x60 x61 x62 x63 x64 x65 x66 x67 x68 x69 x70 x71 x72 x73 x74 x75 x76 x77 x78 x79 x80 x81 x82 x83 x84 : Value} {Q : Exit → Act → World → Prop} {W : World} {G : Nat} {N : Int} {a : Option Addr} {l c : Nat} {ws : List Int} (hN : -9223372036854775808 ≤ N ∧ N < 9223372036854775808) (X0 : W.cell? ⟨G, 0, none⟩ = some (.int .i64 N)) (X1 : W.cell? ⟨G, 1, none⟩ = some (.slice a l c)) (h : Nums W a l c ws)
    (hN : ∀ (z : Bool) (wx : World) (y20 y21 : Value), (z = true ↔ RightS N ws) → Below W.heap.size W wx → Q .normal ⟨#[x0, x1, x2, x3, x4, x5, .pointer (some ⟨G, 0, none⟩), x7, x8, x9, x10, x11, x12, .bool z, x14, x15, x16, x17, x18, x19, y20, y21, x22, x23, x24, x25, x26, x27, x28, x29, x30, x31, x32, x33, x34, x35, x36, x37, x38, x39, x40, x41, x42, x43, x44, x45, x46, x47, x48, x49, x50, x51, x52, x53, x54, x55, x56, x57, x58, x59, x60, x61, x62, x63, x64, x65, x66, x67, x68, x69, x70, x71, x72, x73, x74, x75, x76, x77, x78, x79, x80, x81, x82, x83, x84], []⟩ wx) :
    Code.wp Try.prog ((Try.f27.body.bind (pcAt 2)).getD .skip) Q ⟨#[x0, x1, x2, x3, x4, x5, .pointer (some ⟨G, 0, none⟩), x7, x8, x9, x10, x11, x12, x13, x14, x15, x16, x17, x18, x19, x20, x21, x22, x23, x24, x25, x26, x27, x28, x29, x30, x31, x32, x33, x34, x35, x36, x37, x38, x39, x40, x41, x42, x43, x44, x45, x46, x47, x48, x49, x50, x51, x52, x53, x54, x55, x56, x57, x58, x59, x60, x61, x62, x63, x64, x65, x66, x67, x68, x69, x70, x71, x72, x73, x74, x75, x76, x77, x78, x79, x80, x81, x82, x83, x84], []⟩ W := by
  conv => arg 2; whnf
  have HN : Hid (∀ (z : Bool) (wx : World) (y20 y21 : Value), (z = true ↔ RightS N ws) → Below W.heap.size W wx → Q .normal ⟨#[x0, x1, x2, x3, x4, x5, .pointer (some ⟨G, 0, none⟩), x7, x8, x9, x10, x11, x12, .bool z, x14, x15, x16, x17, x18, x19, y20, y21, x22, x23, x24, x25, x26, x27, x28, x29, x30, x31, x32, x33, x34, x35, x36, x37, x38, x39, x40, x41, x42, x43, x44, x45, x46, x47, x48, x49, x50, x51, x52, x53, x54, x55, x56, x57, x58, x59, x60, x61, x62, x63, x64, x65, x66, x67, x68, x69, x70, x71, x72, x73, x74, x75, x76, x77, x78, x79, x80, x81, x82, x83, x84], []⟩ wx) := hN
  clear hN
  have HC := (show Hid _ from r14right_any N a l c ws W hN h)
  clear hN h
  go_wp2_with fail
  refine Calls.mono HC.out ?_
  rintro e wx ⟨z, rfl, h1, h2⟩
  have HT : Hid ((z = true ↔ RightS N ws) ∧ Below W.heap.size W wx) := ⟨h1, h2⟩
  clear h1 h2 HC X0 X1
  dsimp only
  go_wp2_with fail
  exact HN.out z wx _ _ HT.out.1 HT.out.2

set_option maxRecDepth 100000 in
set_option maxHeartbeats 12800000 in
theorem bo_p3 {x0 x1 x2 x3 x4 x7 x8 x9 x11 x14 x15 x16 x17 x18 x19 x20 x21 x22 x23 x24 x25 x26 x27 x28 x29 x30 x31 x32 x33 x34 x35 x36 x37 x38 x39 x40 x41 x42 x43 x44 x45 x46 x47 x48 x49 x50 x51 x52 x53 x54 x55 x56 x57 x58 x59 x60 x61 x62 x63 x64 x65 x66 x67 x68 x69 x70 x71 x72 x73 x74 x75 x76 x77 x78 x79 x80 x81 x82 x83 x84 : Value} {Q : Exit → Act → World → Prop} {W : World} {A B R : Nat} {M K : Int} {z y : Bool} (a0 : W.cell? ⟨A, 0, none⟩ = some (.int .i64 M)) (b0 : W.cell? ⟨B, 0, none⟩ = some (.int .i64 K)) (r0 : W.cell? ⟨R, 0, none⟩ = some (.int .i64 0)) (r1 : W.cell? ⟨R, 1, none⟩ = some (.slice none 0 0)) (f0 : W.frozen? ⟨R, 0, none⟩ = false) (f1 : W.frozen? ⟨R, 1, none⟩ = false)
    (hN : ∀ (y11 y22 y23 y24 y25 y26 y27 y28 y29 y30 y31 y32 y33 y34 y35 : Value), z = true → y = true → M = K → Q .normal ⟨#[x0, x1, x2, x3, x4, .pointer (some ⟨A, 0, none⟩), .pointer (some ⟨B, 0, none⟩), x7, x8, x9, .pointer (some ⟨R, 0, none⟩), y11, .bool z, .bool y, x14, x15, x16, x17, x18, x19, x20, x21, y22, y23, y24, y25, y26, y27, y28, y29, y30, y31, y32, y33, y34, y35, x36, x37, x38, x39, x40, x41, x42, x43, x44, x45, x46, x47, x48, x49, x50, x51, x52, x53, x54, x55, x56, x57, x58, x59, x60, x61, x62, x63, x64, x65, x66, x67, x68, x69, x70, x71, x72, x73, x74, x75, x76, x77, x78, x79, x80, x81, x82, x83, x84], []⟩ W)
    (hR : ∀ (y22 y23 y24 y25 y26 y27 y28 y29 y30 y31 y32 y33 y34 y35 : Value), ¬ (z = true ∧ y = true ∧ M = K) → Q .ret ⟨#[x0, x1, x2, x3, x4, .pointer (some ⟨A, 0, none⟩), .pointer (some ⟨B, 0, none⟩), x7, x8, x9, .pointer (some ⟨R, 0, none⟩), .int .i64 1, .bool z, .bool y, x14, x15, x16, x17, x18, x19, x20, x21, y22, y23, y24, y25, y26, y27, y28, y29, y30, y31, y32, y33, y34, y35, x36, x37, x38, x39, x40, x41, x42, x43, x44, x45, x46, x47, x48, x49, x50, x51, x52, x53, x54, x55, x56, x57, x58, x59, x60, x61, x62, x63, x64, x65, x66, x67, x68, x69, x70, x71, x72, x73, x74, x75, x76, x77, x78, x79, x80, x81, x82, x83, x84], []⟩ ((W.setCell ⟨R, 0, none⟩ (.int .i64 0)).setCell ⟨R, 1, none⟩ (.slice none 0 0))) :
    Code.wp Try.prog ((Try.f27.body.bind (pcAt 3)).getD .skip) Q ⟨#[x0, x1, x2, x3, x4, .pointer (some ⟨A, 0, none⟩), .pointer (some ⟨B, 0, none⟩), x7, x8, x9, .pointer (some ⟨R, 0, none⟩), x11, .bool z, .bool y, x14, x15, x16, x17, x18, x19, x20, x21, x22, x23, x24, x25, x26, x27, x28, x29, x30, x31, x32, x33, x34, x35, x36, x37, x38, x39, x40, x41, x42, x43, x44, x45, x46, x47, x48, x49, x50, x51, x52, x53, x54, x55, x56, x57, x58, x59, x60, x61, x62, x63, x64, x65, x66, x67, x68, x69, x70, x71, x72, x73, x74, x75, x76, x77, x78, x79, x80, x81, x82, x83, x84], []⟩ W := by
  conv => arg 2; whnf
  have HN : Hid (∀ (y11 y22 y23 y24 y25 y26 y27 y28 y29 y30 y31 y32 y33 y34 y35 : Value), z = true → y = true → M = K → Q .normal ⟨#[x0, x1, x2, x3, x4, .pointer (some ⟨A, 0, none⟩), .pointer (some ⟨B, 0, none⟩), x7, x8, x9, .pointer (some ⟨R, 0, none⟩), y11, .bool z, .bool y, x14, x15, x16, x17, x18, x19, x20, x21, y22, y23, y24, y25, y26, y27, y28, y29, y30, y31, y32, y33, y34, y35, x36, x37, x38, x39, x40, x41, x42, x43, x44, x45, x46, x47, x48, x49, x50, x51, x52, x53, x54, x55, x56, x57, x58, x59, x60, x61, x62, x63, x64, x65, x66, x67, x68, x69, x70, x71, x72, x73, x74, x75, x76, x77, x78, x79, x80, x81, x82, x83, x84], []⟩ W) := hN
  have HR : Hid (∀ (y22 y23 y24 y25 y26 y27 y28 y29 y30 y31 y32 y33 y34 y35 : Value), ¬ (z = true ∧ y = true ∧ M = K) → Q .ret ⟨#[x0, x1, x2, x3, x4, .pointer (some ⟨A, 0, none⟩), .pointer (some ⟨B, 0, none⟩), x7, x8, x9, .pointer (some ⟨R, 0, none⟩), .int .i64 1, .bool z, .bool y, x14, x15, x16, x17, x18, x19, x20, x21, y22, y23, y24, y25, y26, y27, y28, y29, y30, y31, y32, y33, y34, y35, x36, x37, x38, x39, x40, x41, x42, x43, x44, x45, x46, x47, x48, x49, x50, x51, x52, x53, x54, x55, x56, x57, x58, x59, x60, x61, x62, x63, x64, x65, x66, x67, x68, x69, x70, x71, x72, x73, x74, x75, x76, x77, x78, x79, x80, x81, x82, x83, x84], []⟩ ((W.setCell ⟨R, 0, none⟩ (.int .i64 0)).setCell ⟨R, 1, none⟩ (.slice none 0 0))) := hR
  clear hN hR
  cases z with
  | false =>
    clear HN
    go_wp2_with fail
    exact HR.out  _ _ _ _ _ _ _ _ _ _ _ _ _ _ (by simp)
  | true =>
  cases y with
  | false =>
    clear HN
    go_wp2_with fail
    exact HR.out  _ _ _ _ _ _ _ _ _ _ _ _ _ _ (by simp)
  | true =>
  by_cases h : M = K
  · subst h
    have k1 : (M != M) = false := by simp
    have k2 : (M == M) = true := by simp
    clear HR
    go_wp2_with fail
    exact HN.out  _ _ _ _ _ _ _ _ _ _ _ _ _ _ _ (by trivial) (by trivial) (by trivial)
  · have k1 : (M != K) = true := by simp [h]
    have k2 : (M == K) = false := by simp [h]
    have HX : Hid (¬ M = K) := h
    clear HN h
    go_wp2_with fail
    exact HR.out  _ _ _ _ _ _ _ _ _ _ _ _ _ _ (by have := HX.out; simp; exact this)

set_option maxRecDepth 100000 in
set_option maxHeartbeats 12800000 in
theorem bo_p5 {x0 x1 x2 x3 x4 x5 x6 x7 x8 x9 x10 x11 x12 x13 x14 x15 x16 x17 x18 x19 x20 x21 x22 x23 x24 x25 x26 x27 x28 x29 x30 x31 x32 x33 x34 x35 x36 x37 x38 x39 x40 x41 x42 x43 x44 x45 x46 x47 x48 x49 x50 x51 x52 x53 x54 x55 x56 x57 x58 x59 x60 x61 x62 x63 x64 x65 x66 x67 x68 x69 x70 x71 x72 x73 x74 x75 x76 x77 x78 x79 x80 x81 x82 x83 x84 : Value} {Q : Exit → Act → World → Prop} {W : World} 
    (hN : Q .normal ⟨#[x0, x1, x2, x3, x4, x5, x6, x7, x8, x9, x10, x11, x12, x13, .slice none 0 0, x15, x16, x17, x18, x19, x20, x21, x22, x23, x24, x25, x26, x27, x28, x29, x30, x31, x32, x33, x34, x35, x36, x37, x38, x39, x40, x41, x42, x43, x44, x45, x46, x47, x48, x49, x50, x51, x52, x53, x54, x55, x56, x57, x58, x59, x60, x61, x62, x63, x64, x65, x66, x67, x68, x69, x70, x71, x72, x73, x74, x75, x76, x77, x78, x79, x80, x81, x82, x83, x84], []⟩ W) :
    Code.wp Try.prog ((Try.f27.body.bind (pcAt 5)).getD .skip) Q ⟨#[x0, x1, x2, x3, x4, x5, x6, x7, x8, x9, x10, x11, x12, x13, x14, x15, x16, x17, x18, x19, x20, x21, x22, x23, x24, x25, x26, x27, x28, x29, x30, x31, x32, x33, x34, x35, x36, x37, x38, x39, x40, x41, x42, x43, x44, x45, x46, x47, x48, x49, x50, x51, x52, x53, x54, x55, x56, x57, x58, x59, x60, x61, x62, x63, x64, x65, x66, x67, x68, x69, x70, x71, x72, x73, x74, x75, x76, x77, x78, x79, x80, x81, x82, x83, x84], []⟩ W := by
  conv => arg 2; whnf
  have HN : Hid (Q .normal ⟨#[x0, x1, x2, x3, x4, x5, x6, x7, x8, x9, x10, x11, x12, x13, .slice none 0 0, x15, x16, x17, x18, x19, x20, x21, x22, x23, x24, x25, x26, x27, x28, x29, x30, x31, x32, x33, x34, x35, x36, x37, x38, x39, x40, x41, x42, x43, x44, x45, x46, x47, x48, x49, x50, x51, x52, x53, x54, x55, x56, x57, x58, x59, x60, x61, x62, x63, x64, x65, x66, x67, x68, x69, x70, x71, x72, x73, x74, x75, x76, x77, x78, x79, x80, x81, x82, x83, x84], []⟩ W) := hN
  clear hN
  go_wp2_with fail
  exact HN.out   

set_option maxRecDepth 100000 in
set_option maxHeartbeats 12800000 in
theorem bo_t7 {x0 x1 x2 x3 x4 x6 x7 x8 x9 x10 x11 x12 x13 x14 x16 x17 x18 x19 x20 x21 x22 x23 x24 x25 x26 x27 x28 x29 x30 x31 x32 x33 x34 x35 x36 x37 x38 x39 x40 x41 x42 x43 x44 x45 x46 x47 x48 x49 x50 x51 x52 x53 x54 x55 x56 x57 x58 x59 x60 x61 x62 x63 x64 x65 x66 x67 x68 x69 x70 x71 x72 x73 x74 x75 x76 x77 x78 x79 x80 x81 x82 x83 x84 : Value} {Q : Exit → Act → World → Prop} {W : World} {A i m : Nat} (hi : i ≤ m) (a0 : W.cell? ⟨A, 0, none⟩ = some (.int .i64 (m : Int)))
    (hN : ∀ (y36 y37 y38 y39 : Value), i < m → Q .normal ⟨#[x0, x1, x2, x3, x4, .pointer (some ⟨A, 0, none⟩), x6, x7, x8, x9, x10, x11, x12, x13, x14, .int .i64 (i : Int), x16, x17, x18, x19, x20, x21, x22, x23, x24, x25, x26, x27, x28, x29, x30, x31, x32, x33, x34, x35, y36, y37, y38, y39, x40, x41, x42, x43, x44, x45, x46, x47, x48, x49, x50, x51, x52, x53, x54, x55, x56, x57, x58, x59, x60, x61, x62, x63, x64, x65, x66, x67, x68, x69, x70, x71, x72, x73, x74, x75, x76, x77, x78, x79, x80, x81, x82, x83, x84], []⟩ W)
    (hE : ∀ (y36 y37 y38 y39 : Value), i = m → Q (.exit 0) ⟨#[x0, x1, x2, x3, x4, .pointer (some ⟨A, 0, none⟩), x6, x7, x8, x9, x10, x11, x12, x13, x14, .int .i64 (i : Int), x16, x17, x18, x19, x20, x21, x22, x23, x24, x25, x26, x27, x28, x29, x30, x31, x32, x33, x34, x35, y36, y37, y38, y39, x40, x41, x42, x43, x44, x45, x46, x47, x48, x49, x50, x51, x52, x53, x54, x55, x56, x57, x58, x59, x60, x61, x62, x63, x64, x65, x66, x67, x68, x69, x70, x71, x72, x73, x74, x75, x76, x77, x78, x79, x80, x81, x82, x83, x84], []⟩ W) :
    Code.wp Try.prog (((Try.f27.body.bind (pcLoop 0)).bind (pcAt 7)).getD .skip) Q ⟨#[x0, x1, x2, x3, x4, .pointer (some ⟨A, 0, none⟩), x6, x7, x8, x9, x10, x11, x12, x13, x14, .int .i64 (i : Int), x16, x17, x18, x19, x20, x21, x22, x23, x24, x25, x26, x27, x28, x29, x30, x31, x32, x33, x34, x35, x36, x37, x38, x39, x40, x41, x42, x43, x44, x45, x46, x47, x48, x49, x50, x51, x52, x53, x54, x55, x56, x57, x58, x59, x60, x61, x62, x63, x64, x65, x66, x67, x68, x69, x70, x71, x72, x73, x74, x75, x76, x77, x78, x79, x80, x81, x82, x83, x84], []⟩ W := by
  conv => arg 2; whnf
  have HN : Hid (∀ (y36 y37 y38 y39 : Value), i < m → Q .normal ⟨#[x0, x1, x2, x3, x4, .pointer (some ⟨A, 0, none⟩), x6, x7, x8, x9, x10, x11, x12, x13, x14, .int .i64 (i : Int), x16, x17, x18, x19, x20, x21, x22, x23, x24, x25, x26, x27, x28, x29, x30, x31, x32, x33, x34, x35, y36, y37, y38, y39, x40, x41, x42, x43, x44, x45, x46, x47, x48, x49, x50, x51, x52, x53, x54, x55, x56, x57, x58, x59, x60, x61, x62, x63, x64, x65, x66, x67, x68, x69, x70, x71, x72, x73, x74, x75, x76, x77, x78, x79, x80, x81, x82, x83, x84], []⟩ W) := hN
  have HE : Hid (∀ (y36 y37 y38 y39 : Value), i = m → Q (.exit 0) ⟨#[x0, x1, x2, x3, x4, .pointer (some ⟨A, 0, none⟩), x6, x7, x8, x9, x10, x11, x12, x13, x14, .int .i64 (i : Int), x16, x17, x18, x19, x20, x21, x22, x23, x24, x25, x26, x27, x28, x29, x30, x31, x32, x33, x34, x35, y36, y37, y38, y39, x40, x41, x42, x43, x44, x45, x46, x47, x48, x49, x50, x51, x52, x53, x54, x55, x56, x57, x58, x59, x60, x61, x62, x63, x64, x65, x66, x67, x68, x69, x70, x71, x72, x73, x74, x75, x76, x77, x78, x79, x80, x81, x82, x83, x84], []⟩ W) := hE
  clear hN hE
  by_cases hlt : i < m
  · have hlti : (i : Int) < (m : Int) := by omega
    clear HE
    go_wp2_with fail
    exact HN.out  _ _ _ _ hlt
  · have hlti : decide (i < m) = false := decide_eq_false hlt
    have HE2 : Hid (i = m) := by show _ = _; omega
    clear HN hi
    go_wp2_with fail
    exact HE.out  _ _ _ _ HE2.out

set_option maxRecDepth 100000 in
set_option maxHeartbeats 12800000 in
theorem bo_p9 {x0 x1 x2 x3 x4 x6 x7 x8 x9 x10 x11 x12 x13 x14 x16 x17 x18 x19 x20 x21 x22 x23 x24 x25 x26 x27 x28 x29 x30 x31 x32 x33 x34 x35 x36 x37 x38 x39 x40 x41 x42 x43 x44 x45 x46 x47 x48 x49 x50 x51 x52 x53 x54 x55 x56 x57 x58 x59 x60 x61 x62 x63 x64 x65 x66 x67 x68 x69 x70 x71 x72 x73 x74 x75 x76 x77 x78 x79 x80 x81 x82 x83 x84 : Value} {Q : Exit → Act → World → Prop} {W : World} {G i : Nat} {N : Int} {a : Option Addr} {l c : Nat} {ws : List Int} (X0 : W.cell? ⟨G, 0, none⟩ = some (.int .i64 N)) (X1 : W.cell? ⟨G, 1, none⟩ = some (.slice a l c)) (h : Nums W a l c ws) (hi : i < 64 * l) (hi2 : i ≤ 65536)
    (hN : ∀ (wx : World) (y42 y43 y44 : Value), Below W.heap.size W wx → Q .normal ⟨#[x0, x1, x2, x3, x4, .pointer (some ⟨G, 0, none⟩), x6, x7, x8, x9, x10, x11, x12, x13, x14, .int .i64 (i : Int), .bool (wbit ws i), x17, x18, x19, x20, x21, x22, x23, x24, x25, x26, x27, x28, x29, x30, x31, x32, x33, x34, x35, x36, x37, x38, x39, x40, x41, y42, y43, y44, x45, x46, x47, x48, x49, x50, x51, x52, x53, x54, x55, x56, x57, x58, x59, x60, x61, x62, x63, x64, x65, x66, x67, x68, x69, x70, x71, x72, x73, x74, x75, x76, x77, x78, x79, x80, x81, x82, x83, x84], []⟩ wx) :
    Code.wp Try.prog (((Try.f27.body.bind (pcBlk 1)).bind (pcAt 9)).getD .skip) Q ⟨#[x0, x1, x2, x3, x4, .pointer (some ⟨G, 0, none⟩), x6, x7, x8, x9, x10, x11, x12, x13, x14, .int .i64 (i : Int), x16, x17, x18, x19, x20, x21, x22, x23, x24, x25, x26, x27, x28, x29, x30, x31, x32, x33, x34, x35, x36, x37, x38, x39, x40, x41, x42, x43, x44, x45, x46, x47, x48, x49, x50, x51, x52, x53, x54, x55, x56, x57, x58, x59, x60, x61, x62, x63, x64, x65, x66, x67, x68, x69, x70, x71, x72, x73, x74, x75, x76, x77, x78, x79, x80, x81, x82, x83, x84], []⟩ W := by
  conv => arg 2; whnf
  have HN : Hid (∀ (wx : World) (y42 y43 y44 : Value), Below W.heap.size W wx → Q .normal ⟨#[x0, x1, x2, x3, x4, .pointer (some ⟨G, 0, none⟩), x6, x7, x8, x9, x10, x11, x12, x13, x14, .int .i64 (i : Int), .bool (wbit ws i), x17, x18, x19, x20, x21, x22, x23, x24, x25, x26, x27, x28, x29, x30, x31, x32, x33, x34, x35, x36, x37, x38, x39, x40, x41, y42, y43, y44, x45, x46, x47, x48, x49, x50, x51, x52, x53, x54, x55, x56, x57, x58, x59, x60, x61, x62, x63, x64, x65, x66, x67, x68, x69, x70, x71, x72, x73, x74, x75, x76, x77, x78, x79, x80, x81, x82, x83, x84], []⟩ wx) := hN
  clear hN
  have HC := (show Hid _ from r14bit_any N a l c ws i W h hi (by omega))
  obtain ⟨z, hz⟩ : ∃ z, z = wbit ws i := ⟨_, rfl⟩
  rw [← hz] at HC HN
  clear h hi hi2 hz
  go_wp2_with fail
  refine Calls.mono HC.out ?_
  rintro e wx ⟨rfl, h1⟩
  have HT : Hid (Below W.heap.size W wx) := h1
  clear h1 HC X0 X1
  dsimp only
  go_wp2_with fail
  exact HN.out wx _ _ _ HT.out

set_option maxRecDepth 100000 in
set_option maxHeartbeats 12800000 in
theorem bo_p10 {x0 x1 x2 x3 x4 x5 x7 x8 x9 x10 x11 x12 x13 x14 x16 x17 x18 x19 x20 x21 x22 x23 x24 x25 x26 x27 x28 x29 x30 x31 x32 x33 x34 x35 x36 x37 x38 x39 x40 x41 x42 x43 x44 x45 x46 x47 x48 x49 x50 x51 x52 x53 x54 x55 x56 x57 x58 x59 x60 x61 x62 x63 x64 x65 x66 x67 x68 x69 x70 x71 x72 x73 x74 x75 x76 x77 x78 x79 x80 x81 x82 x83 x84 : Value} {Q : Exit → Act → World → Prop} {W : World} {G i : Nat} {N : Int} {a : Option Addr} {l c : Nat} {ws : List Int} (X0 : W.cell? ⟨G, 0, none⟩ = some (.int .i64 N)) (X1 : W.cell? ⟨G, 1, none⟩ = some (.slice a l c)) (h : Nums W a l c ws) (hi : i < 64 * l) (hi2 : i ≤ 65536)
    (hN : ∀ (wx : World) (y45 y46 y47 : Value), Below W.heap.size W wx → Q .normal ⟨#[x0, x1, x2, x3, x4, x5, .pointer (some ⟨G, 0, none⟩), x7, x8, x9, x10, x11, x12, x13, x14, .int .i64 (i : Int), x16, .bool (wbit ws i), x18, x19, x20, x21, x22, x23, x24, x25, x26, x27, x28, x29, x30, x31, x32, x33, x34, x35, x36, x37, x38, x39, x40, x41, x42, x43, x44, y45, y46, y47, x48, x49, x50, x51, x52, x53, x54, x55, x56, x57, x58, x59, x60, x61, x62, x63, x64, x65, x66, x67, x68, x69, x70, x71, x72, x73, x74, x75, x76, x77, x78, x79, x80, x81, x82, x83, x84], []⟩ wx) :
    Code.wp Try.prog (((Try.f27.body.bind (pcBlk 1)).bind (pcAt 10)).getD .skip) Q ⟨#[x0, x1, x2, x3, x4, x5, .pointer (some ⟨G, 0, none⟩), x7, x8, x9, x10, x11, x12, x13, x14, .int .i64 (i : Int), x16, x17, x18, x19, x20, x21, x22, x23, x24, x25, x26, x27, x28, x29, x30, x31, x32, x33, x34, x35, x36, x37, x38, x39, x40, x41, x42, x43, x44, x45, x46, x47, x48, x49, x50, x51, x52, x53, x54, x55, x56, x57, x58, x59, x60, x61, x62, x63, x64, x65, x66, x67, x68, x69, x70, x71, x72, x73, x74, x75, x76, x77, x78, x79, x80, x81, x82, x83, x84], []⟩ W := by
  conv => arg 2; whnf
  have HN : Hid (∀ (wx : World) (y45 y46 y47 : Value), Below W.heap.size W wx → Q .normal ⟨#[x0, x1, x2, x3, x4, x5, .pointer (some ⟨G, 0, none⟩), x7, x8, x9, x10, x11, x12, x13, x14, .int .i64 (i : Int), x16, .bool (wbit ws i), x18, x19, x20, x21, x22, x23, x24, x25, x26, x27, x28, x29, x30, x31, x32, x33, x34, x35, x36, x37, x38, x39, x40, x41, x42, x43, x44, y45, y46, y47, x48, x49, x50, x51, x52, x53, x54, x55, x56, x57, x58, x59, x60, x61, x62, x63, x64, x65, x66, x67, x68, x69, x70, x71, x72, x73, x74, x75, x76, x77, x78, x79, x80, x81, x82, x83, x84], []⟩ wx) := hN
  clear hN
  have HC := (show Hid _ from r14bit_any N a l c ws i W h hi (by omega))
  obtain ⟨z, hz⟩ : ∃ z, z = wbit ws i := ⟨_, rfl⟩
  rw [← hz] at HC HN
  clear h hi hi2 hz
  go_wp2_with fail
  refine Calls.mono HC.out ?_
  rintro e wx ⟨rfl, h1⟩
  have HT : Hid (Below W.heap.size W wx) := h1
  clear h1 HC X0 X1
  dsimp only
  go_wp2_with fail
  exact HN.out wx _ _ _ HT.out

set_option maxRecDepth 100000 in
set_option maxHeartbeats 12800000 in
theorem bo_p8 {x0 x1 x2 x3 x4 x5 x6 x7 x8 x9 x10 x11 x12 x13 x14 x16 x17 x18 x19 x20 x21 x22 x23 x24 x25 x26 x27 x28 x29 x30 x31 x32 x33 x34 x35 x36 x37 x38 x39 x40 x41 x42 x43 x44 x45 x46 x47 x48 x49 x50 x51 x52 x53 x54 x55 x56 x57 x58 x59 x60 x61 x62 x63 x64 x65 x66 x67 x68 x69 x70 x71 x72 x73 x74 x75 x76 x77 x78 x79 x80 x81 x82 x83 x84 : Value} {Q : Exit → Act → World → Prop} {W : World} {i : Nat} (hi : i < 100000)
    (hN : ∀ (y40 y41 : Value), Q .normal ⟨#[x0, x1, x2, x3, x4, x5, x6, x7, x8, x9, x10, x11, x12, x13, x14, .int .i64 ((i + 1 : Nat) : Int), x16, x17, x18, x19, x20, x21, x22, x23, x24, x25, x26, x27, x28, x29, x30, x31, x32, x33, x34, x35, x36, x37, x38, x39, y40, y41, x42, x43, x44, x45, x46, x47, x48, x49, x50, x51, x52, x53, x54, x55, x56, x57, x58, x59, x60, x61, x62, x63, x64, x65, x66, x67, x68, x69, x70, x71, x72, x73, x74, x75, x76, x77, x78, x79, x80, x81, x82, x83, x84], []⟩ W) :
    Code.wp Try.prog (((Try.f27.body.bind (pcLoop 0)).bind (pcAt 8)).getD .skip) Q ⟨#[x0, x1, x2, x3, x4, x5, x6, x7, x8, x9, x10, x11, x12, x13, x14, .int .i64 (i : Int), x16, x17, x18, x19, x20, x21, x22, x23, x24, x25, x26, x27, x28, x29, x30, x31, x32, x33, x34, x35, x36, x37, x38, x39, x40, x41, x42, x43, x44, x45, x46, x47, x48, x49, x50, x51, x52, x53, x54, x55, x56, x57, x58, x59, x60, x61, x62, x63, x64, x65, x66, x67, x68, x69, x70, x71, x72, x73, x74, x75, x76, x77, x78, x79, x80, x81, x82, x83, x84], []⟩ W := by
  conv => arg 2; whnf
  have HN : Hid (∀ (y40 y41 : Value), Q .normal ⟨#[x0, x1, x2, x3, x4, x5, x6, x7, x8, x9, x10, x11, x12, x13, x14, .int .i64 ((i + 1 : Nat) : Int), x16, x17, x18, x19, x20, x21, x22, x23, x24, x25, x26, x27, x28, x29, x30, x31, x32, x33, x34, x35, x36, x37, x38, x39, y40, y41, x42, x43, x44, x45, x46, x47, x48, x49, x50, x51, x52, x53, x54, x55, x56, x57, x58, x59, x60, x61, x62, x63, x64, x65, x66, x67, x68, x69, x70, x71, x72, x73, x74, x75, x76, x77, x78, x79, x80, x81, x82, x83, x84], []⟩ W) := hN
  clear hN
  have e : ((i + 1 : Nat) : Int) = (i : Int) + 1 := by omega
  rw [e] at HN
  go_wp2_with fail
  exact HN.out  _ _ 

end Go.Proofs.Ytfgccldkbolkoaa

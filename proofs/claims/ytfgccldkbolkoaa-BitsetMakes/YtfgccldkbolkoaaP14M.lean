/-
  BitsetMakes: its walk. Written by mk/p14laws.py.
-/
import Derived.Test.YtfgccldkbolkoaaP14O
namespace Go.Proofs.Ytfgccldkbolkoaa
open Go.RowKit

set_option maxRecDepth 100000 in
set_option maxHeartbeats 12800000 in
theorem bm_p0 {x0 x1 x2 x3 x4 x5 x6 x7 x8 x9 x10 x11 x12 x13 x14 x15 x16 x17 x18 x19 x20 x21 x22 x23 x24 x25 x26 x27 x28 x29 x30 x31 x32 x33 x34 x35 x36 x37 x38 x39 x40 x41 x42 x43 x44 x45 x46 x47 x48 x49 x50 x51 x52 x53 x54 x55 x56 x57 x58 x59 x60 x61 x62 x63 x64 x65 x66 x67 x68 x69 x70 x71 x72 x73 x74 x75 x76 x77 x78 x79 x80 x81 x82 x83 x84 x85 x86 x87 x88 x89 x90 x91 x92 x93 x94 x95 x96 : Value} {Q : Exit → Act → World → Prop} {W : World} 
    (hN : Q .normal ⟨#[x0, x1, x2, x3, .bool false, x5, x6, x7, x8, x9, x10, x11, x12, x13, x14, x15, x16, x17, x18, x19, x20, x21, x22, x23, x24, x25, x26, x27, x28, x29, x30, x31, x32, x33, x34, x35, x36, x37, x38, x39, x40, x41, x42, x43, x44, x45, x46, x47, x48, x49, x50, x51, x52, x53, x54, x55, x56, x57, x58, x59, x60, x61, x62, x63, x64, x65, x66, x67, x68, x69, x70, x71, x72, x73, x74, x75, x76, x77, x78, x79, x80, x81, x82, x83, x84, x85, x86, x87, x88, x89, x90, x91, x92, x93, x94, x95, x96], []⟩ W) :
    Code.wp Try.prog ((Try.f3.body.bind (pcAt 0)).getD .skip) Q ⟨#[x0, x1, x2, x3, x4, x5, x6, x7, x8, x9, x10, x11, x12, x13, x14, x15, x16, x17, x18, x19, x20, x21, x22, x23, x24, x25, x26, x27, x28, x29, x30, x31, x32, x33, x34, x35, x36, x37, x38, x39, x40, x41, x42, x43, x44, x45, x46, x47, x48, x49, x50, x51, x52, x53, x54, x55, x56, x57, x58, x59, x60, x61, x62, x63, x64, x65, x66, x67, x68, x69, x70, x71, x72, x73, x74, x75, x76, x77, x78, x79, x80, x81, x82, x83, x84, x85, x86, x87, x88, x89, x90, x91, x92, x93, x94, x95, x96], []⟩ W := by
  conv => arg 2; whnf
  have HN : Hid (Q .normal ⟨#[x0, x1, x2, x3, .bool false, x5, x6, x7, x8, x9, x10, x11, x12, x13, x14, x15, x16, x17, x18, x19, x20, x21, x22, x23, x24, x25, x26, x27, x28, x29, x30, x31, x32, x33, x34, x35, x36, x37, x38, x39, x40, x41, x42, x43, x44, x45, x46, x47, x48, x49, x50, x51, x52, x53, x54, x55, x56, x57, x58, x59, x60, x61, x62, x63, x64, x65, x66, x67, x68, x69, x70, x71, x72, x73, x74, x75, x76, x77, x78, x79, x80, x81, x82, x83, x84, x85, x86, x87, x88, x89, x90, x91, x92, x93, x94, x95, x96], []⟩ W) := hN
  clear hN
  go_wp2_with fail
  exact HN.out   

set_option maxRecDepth 100000 in
set_option maxHeartbeats 12800000 in
theorem bm_p1 {x0 x2 x3 x4 x5 x6 x7 x8 x9 x10 x11 x12 x13 x14 x15 x16 x17 x18 x19 x20 x21 x22 x23 x24 x25 x26 x27 x28 x29 x30 x31 x32 x33 x34 x35 x36 x37 x38 x39 x40 x41 x42 x43 x44 x45 x46 x47 x48 x49 x50 x51 x52 x53 x54 x55 x56 x57 x58 x59 x60 x61 x62 x63 x64 x65 x66 x67 x68 x69 x70 x71 x72 x73 x74 x75 x76 x77 x78 x79 x80 x81 x82 x83 x84 x85 x86 x87 x88 x89 x90 x91 x92 x93 x94 x95 x96 : Value} {Q : Exit → Act → World → Prop} {W : World} {p : Option Addr} {len cap : Nat} 
    (hN : ∀ (y4 y22 y23 y24 : Value), len ≤ 100000 → Q .normal ⟨#[x0, .slice p len cap, x2, x3, y4, x5, x6, x7, x8, x9, x10, x11, x12, x13, x14, x15, x16, x17, x18, x19, x20, x21, y22, y23, y24, x25, x26, x27, x28, x29, x30, x31, x32, x33, x34, x35, x36, x37, x38, x39, x40, x41, x42, x43, x44, x45, x46, x47, x48, x49, x50, x51, x52, x53, x54, x55, x56, x57, x58, x59, x60, x61, x62, x63, x64, x65, x66, x67, x68, x69, x70, x71, x72, x73, x74, x75, x76, x77, x78, x79, x80, x81, x82, x83, x84, x85, x86, x87, x88, x89, x90, x91, x92, x93, x94, x95, x96], []⟩ W)
    (hR : ∀ (y22 y23 y24 : Value), Q .ret ⟨#[x0, .slice p len cap, x2, x3, .bool true, x5, x6, x7, x8, x9, x10, x11, x12, x13, x14, x15, x16, x17, x18, x19, x20, x21, y22, y23, y24, x25, x26, x27, x28, x29, x30, x31, x32, x33, x34, x35, x36, x37, x38, x39, x40, x41, x42, x43, x44, x45, x46, x47, x48, x49, x50, x51, x52, x53, x54, x55, x56, x57, x58, x59, x60, x61, x62, x63, x64, x65, x66, x67, x68, x69, x70, x71, x72, x73, x74, x75, x76, x77, x78, x79, x80, x81, x82, x83, x84, x85, x86, x87, x88, x89, x90, x91, x92, x93, x94, x95, x96], []⟩ W) :
    Code.wp Try.prog ((Try.f3.body.bind (pcAt 1)).getD .skip) Q ⟨#[x0, .slice p len cap, x2, x3, x4, x5, x6, x7, x8, x9, x10, x11, x12, x13, x14, x15, x16, x17, x18, x19, x20, x21, x22, x23, x24, x25, x26, x27, x28, x29, x30, x31, x32, x33, x34, x35, x36, x37, x38, x39, x40, x41, x42, x43, x44, x45, x46, x47, x48, x49, x50, x51, x52, x53, x54, x55, x56, x57, x58, x59, x60, x61, x62, x63, x64, x65, x66, x67, x68, x69, x70, x71, x72, x73, x74, x75, x76, x77, x78, x79, x80, x81, x82, x83, x84, x85, x86, x87, x88, x89, x90, x91, x92, x93, x94, x95, x96], []⟩ W := by
  conv => arg 2; whnf
  have HN : Hid (∀ (y4 y22 y23 y24 : Value), len ≤ 100000 → Q .normal ⟨#[x0, .slice p len cap, x2, x3, y4, x5, x6, x7, x8, x9, x10, x11, x12, x13, x14, x15, x16, x17, x18, x19, x20, x21, y22, y23, y24, x25, x26, x27, x28, x29, x30, x31, x32, x33, x34, x35, x36, x37, x38, x39, x40, x41, x42, x43, x44, x45, x46, x47, x48, x49, x50, x51, x52, x53, x54, x55, x56, x57, x58, x59, x60, x61, x62, x63, x64, x65, x66, x67, x68, x69, x70, x71, x72, x73, x74, x75, x76, x77, x78, x79, x80, x81, x82, x83, x84, x85, x86, x87, x88, x89, x90, x91, x92, x93, x94, x95, x96], []⟩ W) := hN
  have HR : Hid (∀ (y22 y23 y24 : Value), Q .ret ⟨#[x0, .slice p len cap, x2, x3, .bool true, x5, x6, x7, x8, x9, x10, x11, x12, x13, x14, x15, x16, x17, x18, x19, x20, x21, y22, y23, y24, x25, x26, x27, x28, x29, x30, x31, x32, x33, x34, x35, x36, x37, x38, x39, x40, x41, x42, x43, x44, x45, x46, x47, x48, x49, x50, x51, x52, x53, x54, x55, x56, x57, x58, x59, x60, x61, x62, x63, x64, x65, x66, x67, x68, x69, x70, x71, x72, x73, x74, x75, x76, x77, x78, x79, x80, x81, x82, x83, x84, x85, x86, x87, x88, x89, x90, x91, x92, x93, x94, x95, x96], []⟩ W) := hR
  clear hN hR
  by_cases h : 100000 < len
  · have h1 : (100000 : Int) < (len : Int) := by omega
    clear HN
    go_wp2_with fail
    exact HR.out  _ _ _ 
  · have h1 : decide ((100000 : Int) < (len : Int)) = false := decide_eq_false (by omega)
    have HX : Hid (len ≤ 100000) := by show _ ≤ _; omega
    clear HR h
    go_wp2_with fail
    exact HN.out  _ _ _ _ HX.out

set_option maxRecDepth 100000 in
set_option maxHeartbeats 12800000 in
theorem bm_p3 {x1 x2 x3 x4 x5 x6 x7 x8 x9 x10 x11 x12 x13 x14 x15 x16 x17 x18 x19 x20 x21 x22 x23 x24 x25 x26 x27 x28 x29 x30 x31 x32 x33 x34 x35 x36 x37 x38 x39 x40 x41 x42 x43 x44 x45 x46 x47 x48 x49 x50 x51 x52 x53 x54 x55 x56 x57 x58 x59 x60 x61 x62 x63 x64 x65 x66 x67 x68 x69 x70 x71 x72 x73 x74 x75 x76 x77 x78 x79 x80 x81 x82 x83 x84 x85 x86 x87 x88 x89 x90 x91 x92 x93 x94 x95 x96 : Value} {Q : Exit → Act → World → Prop} {W : World} {n : Int} (A : NewOk14) (hn : -9223372036854775808 ≤ n ∧ n < 9223372036854775808)
    (hN : ∀ (N : Int) (a : Option Addr) (l c : Nat) (ws : List Int) (err : Int) (wx : World) (y25 y26 y27 y28 y29 : Value), Nums wx a l c ws → ResOf n [] N ws err → Below W.heap.size W wx → Q .normal ⟨#[.int .i64 n, x1, x2, x3, x4, .pointer (some ⟨wx.heap.size, 0, none⟩), .int .i64 err, x7, x8, x9, x10, x11, x12, x13, x14, x15, x16, x17, x18, x19, x20, x21, x22, x23, x24, y25, y26, y27, y28, y29, x30, x31, x32, x33, x34, x35, x36, x37, x38, x39, x40, x41, x42, x43, x44, x45, x46, x47, x48, x49, x50, x51, x52, x53, x54, x55, x56, x57, x58, x59, x60, x61, x62, x63, x64, x65, x66, x67, x68, x69, x70, x71, x72, x73, x74, x75, x76, x77, x78, x79, x80, x81, x82, x83, x84, x85, x86, x87, x88, x89, x90, x91, x92, x93, x94, x95, x96], []⟩ (wx.alloc (.cells #[.int .i64 N, .slice a l c] 25))) :
    Code.wp Try.prog ((Try.f3.body.bind (pcAt 3)).getD .skip) Q ⟨#[.int .i64 n, x1, x2, x3, x4, x5, x6, x7, x8, x9, x10, x11, x12, x13, x14, x15, x16, x17, x18, x19, x20, x21, x22, x23, x24, x25, x26, x27, x28, x29, x30, x31, x32, x33, x34, x35, x36, x37, x38, x39, x40, x41, x42, x43, x44, x45, x46, x47, x48, x49, x50, x51, x52, x53, x54, x55, x56, x57, x58, x59, x60, x61, x62, x63, x64, x65, x66, x67, x68, x69, x70, x71, x72, x73, x74, x75, x76, x77, x78, x79, x80, x81, x82, x83, x84, x85, x86, x87, x88, x89, x90, x91, x92, x93, x94, x95, x96], []⟩ W := by
  conv => arg 2; whnf
  have HN : Hid (∀ (N : Int) (a : Option Addr) (l c : Nat) (ws : List Int) (err : Int) (wx : World) (y25 y26 y27 y28 y29 : Value), Nums wx a l c ws → ResOf n [] N ws err → Below W.heap.size W wx → Q .normal ⟨#[.int .i64 n, x1, x2, x3, x4, .pointer (some ⟨wx.heap.size, 0, none⟩), .int .i64 err, x7, x8, x9, x10, x11, x12, x13, x14, x15, x16, x17, x18, x19, x20, x21, x22, x23, x24, y25, y26, y27, y28, y29, x30, x31, x32, x33, x34, x35, x36, x37, x38, x39, x40, x41, x42, x43, x44, x45, x46, x47, x48, x49, x50, x51, x52, x53, x54, x55, x56, x57, x58, x59, x60, x61, x62, x63, x64, x65, x66, x67, x68, x69, x70, x71, x72, x73, x74, x75, x76, x77, x78, x79, x80, x81, x82, x83, x84, x85, x86, x87, x88, x89, x90, x91, x92, x93, x94, x95, x96], []⟩ (wx.alloc (.cells #[.int .i64 N, .slice a l c] 25))) := hN
  clear hN
  have HC := (show Hid _ from A n W hn)
  go_wp2_with fail
  refine Calls.mono HC.out ?_
  rintro e wx ⟨N, a, l, c, ws, err, rfl, h1, h2, h3⟩
  have HT : Hid (Nums wx a l c ws ∧ ResOf n [] N ws err ∧ Below W.heap.size W wx) := ⟨h1, h2, h3⟩
  clear h1 h2 h3 HC
  dsimp only
  go_wp2_with fail
  exact HN.out N a l c ws err wx _ _ _ _ _ HT.out.1 HT.out.2.1 HT.out.2.2

set_option maxRecDepth 100000 in
set_option maxHeartbeats 12800000 in
theorem bm_p4 {x1 x2 x3 x4 x5 x6 x7 x8 x9 x10 x11 x12 x13 x14 x15 x16 x17 x18 x19 x20 x21 x22 x23 x24 x25 x26 x27 x28 x29 x30 x31 x32 x33 x34 x35 x36 x37 x38 x39 x40 x41 x42 x43 x44 x45 x46 x47 x48 x49 x50 x51 x52 x53 x54 x55 x56 x57 x58 x59 x60 x61 x62 x63 x64 x65 x66 x67 x68 x69 x70 x71 x72 x73 x74 x75 x76 x77 x78 x79 x80 x81 x82 x83 x84 x85 x86 x87 x88 x89 x90 x91 x92 x93 x94 x95 x96 : Value} {Q : Exit → Act → World → Prop} {W : World} {n : Int} 
    (hN : ∀ (N : Int) (a : Option Addr) (l c : Nat) (ws : List Int) (err : Int) (wx : World) (y30 y31 y32 y33 y34 : Value), Nums wx a l c ws → ResOf n [] N ws err → Below W.heap.size W wx → Q .normal ⟨#[.int .i64 n, x1, x2, x3, x4, x5, x6, .pointer (some ⟨wx.heap.size, 0, none⟩), .int .i64 err, x9, x10, x11, x12, x13, x14, x15, x16, x17, x18, x19, x20, x21, x22, x23, x24, x25, x26, x27, x28, x29, y30, y31, y32, y33, y34, x35, x36, x37, x38, x39, x40, x41, x42, x43, x44, x45, x46, x47, x48, x49, x50, x51, x52, x53, x54, x55, x56, x57, x58, x59, x60, x61, x62, x63, x64, x65, x66, x67, x68, x69, x70, x71, x72, x73, x74, x75, x76, x77, x78, x79, x80, x81, x82, x83, x84, x85, x86, x87, x88, x89, x90, x91, x92, x93, x94, x95, x96], []⟩ (wx.alloc (.cells #[.int .i64 N, .slice a l c] 25))) :
    Code.wp Try.prog ((Try.f3.body.bind (pcAt 4)).getD .skip) Q ⟨#[.int .i64 n, x1, x2, x3, x4, x5, x6, x7, x8, x9, x10, x11, x12, x13, x14, x15, x16, x17, x18, x19, x20, x21, x22, x23, x24, x25, x26, x27, x28, x29, x30, x31, x32, x33, x34, x35, x36, x37, x38, x39, x40, x41, x42, x43, x44, x45, x46, x47, x48, x49, x50, x51, x52, x53, x54, x55, x56, x57, x58, x59, x60, x61, x62, x63, x64, x65, x66, x67, x68, x69, x70, x71, x72, x73, x74, x75, x76, x77, x78, x79, x80, x81, x82, x83, x84, x85, x86, x87, x88, x89, x90, x91, x92, x93, x94, x95, x96], []⟩ W := by
  conv => arg 2; whnf
  have HN : Hid (∀ (N : Int) (a : Option Addr) (l c : Nat) (ws : List Int) (err : Int) (wx : World) (y30 y31 y32 y33 y34 : Value), Nums wx a l c ws → ResOf n [] N ws err → Below W.heap.size W wx → Q .normal ⟨#[.int .i64 n, x1, x2, x3, x4, x5, x6, .pointer (some ⟨wx.heap.size, 0, none⟩), .int .i64 err, x9, x10, x11, x12, x13, x14, x15, x16, x17, x18, x19, x20, x21, x22, x23, x24, x25, x26, x27, x28, x29, y30, y31, y32, y33, y34, x35, x36, x37, x38, x39, x40, x41, x42, x43, x44, x45, x46, x47, x48, x49, x50, x51, x52, x53, x54, x55, x56, x57, x58, x59, x60, x61, x62, x63, x64, x65, x66, x67, x68, x69, x70, x71, x72, x73, x74, x75, x76, x77, x78, x79, x80, x81, x82, x83, x84, x85, x86, x87, x88, x89, x90, x91, x92, x93, x94, x95, x96], []⟩ (wx.alloc (.cells #[.int .i64 N, .slice a l c] 25))) := hN
  clear hN
  have HC := (show Hid _ from r14new_any n W)
  go_wp2_with fail
  refine Calls.mono HC.out ?_
  rintro e wx ⟨N, a, l, c, ws, err, rfl, h1, h2, h3⟩
  have HT : Hid (Nums wx a l c ws ∧ ResOf n [] N ws err ∧ Below W.heap.size W wx) := ⟨h1, h2, h3⟩
  clear h1 h2 h3 HC
  dsimp only
  go_wp2_with fail
  exact HN.out N a l c ws err wx _ _ _ _ _ HT.out.1 HT.out.2.1 HT.out.2.2

set_option maxRecDepth 100000 in
set_option maxHeartbeats 12800000 in
theorem bm_p5 {x0 x1 x2 x3 x4 x6 x8 x9 x10 x11 x12 x13 x14 x15 x16 x17 x18 x19 x20 x21 x22 x23 x24 x25 x26 x27 x28 x29 x30 x31 x32 x33 x34 x35 x36 x37 x38 x39 x40 x41 x42 x43 x44 x45 x46 x47 x48 x49 x50 x51 x52 x53 x54 x55 x56 x57 x58 x59 x60 x61 x62 x63 x64 x65 x66 x67 x68 x69 x70 x71 x72 x73 x74 x75 x76 x77 x78 x79 x80 x81 x82 x83 x84 x85 x86 x87 x88 x89 x90 x91 x92 x93 x94 x95 x96 : Value} {Q : Exit → Act → World → Prop} {W : World} {g h : Nat} {N : Int} {a b : Option Addr} {la ca lb cb : Nat} {ws : List Int} (X0 : W.cell? ⟨g, 0, none⟩ = some (.int .i64 N)) (X1 : W.cell? ⟨g, 1, none⟩ = some (.slice a la ca)) (Y0 : W.cell? ⟨h, 0, none⟩ = some (.int .i64 N)) (Y1 : W.cell? ⟨h, 1, none⟩ = some (.slice b lb cb)) (hx : Nums W a la ca ws) (hy : Nums W b lb cb ws)
    (hN : ∀ (wx : World) (y35 y36 y37 : Value), Below W.heap.size W wx → Q .normal ⟨#[x0, x1, x2, x3, x4, .pointer (some ⟨g, 0, none⟩), x6, .pointer (some ⟨h, 0, none⟩), x8, .bool true, x10, x11, x12, x13, x14, x15, x16, x17, x18, x19, x20, x21, x22, x23, x24, x25, x26, x27, x28, x29, x30, x31, x32, x33, x34, y35, y36, y37, x38, x39, x40, x41, x42, x43, x44, x45, x46, x47, x48, x49, x50, x51, x52, x53, x54, x55, x56, x57, x58, x59, x60, x61, x62, x63, x64, x65, x66, x67, x68, x69, x70, x71, x72, x73, x74, x75, x76, x77, x78, x79, x80, x81, x82, x83, x84, x85, x86, x87, x88, x89, x90, x91, x92, x93, x94, x95, x96], []⟩ wx) :
    Code.wp Try.prog ((Try.f3.body.bind (pcAt 5)).getD .skip) Q ⟨#[x0, x1, x2, x3, x4, .pointer (some ⟨g, 0, none⟩), x6, .pointer (some ⟨h, 0, none⟩), x8, x9, x10, x11, x12, x13, x14, x15, x16, x17, x18, x19, x20, x21, x22, x23, x24, x25, x26, x27, x28, x29, x30, x31, x32, x33, x34, x35, x36, x37, x38, x39, x40, x41, x42, x43, x44, x45, x46, x47, x48, x49, x50, x51, x52, x53, x54, x55, x56, x57, x58, x59, x60, x61, x62, x63, x64, x65, x66, x67, x68, x69, x70, x71, x72, x73, x74, x75, x76, x77, x78, x79, x80, x81, x82, x83, x84, x85, x86, x87, x88, x89, x90, x91, x92, x93, x94, x95, x96], []⟩ W := by
  conv => arg 2; whnf
  have HN : Hid (∀ (wx : World) (y35 y36 y37 : Value), Below W.heap.size W wx → Q .normal ⟨#[x0, x1, x2, x3, x4, .pointer (some ⟨g, 0, none⟩), x6, .pointer (some ⟨h, 0, none⟩), x8, .bool true, x10, x11, x12, x13, x14, x15, x16, x17, x18, x19, x20, x21, x22, x23, x24, x25, x26, x27, x28, x29, x30, x31, x32, x33, x34, y35, y36, y37, x38, x39, x40, x41, x42, x43, x44, x45, x46, x47, x48, x49, x50, x51, x52, x53, x54, x55, x56, x57, x58, x59, x60, x61, x62, x63, x64, x65, x66, x67, x68, x69, x70, x71, x72, x73, x74, x75, x76, x77, x78, x79, x80, x81, x82, x83, x84, x85, x86, x87, x88, x89, x90, x91, x92, x93, x94, x95, x96], []⟩ wx) := hN
  clear hN
  have HC : Hid (Calls Try.prog 8 #[.agg #[.int .i64 N, .slice a la ca], .agg #[.int .i64 N, .slice b lb cb]] W fun e w' => e = .returned (.bool true) ∧ Below W.heap.size W w') := (r14same_any N N a b la ca lb cb ws ws W hx hy).mono fun e w' q => ⟨by rw [q.1]; simp, q.2⟩
  clear hx hy
  go_wp2_with fail
  refine Calls.mono HC.out ?_
  rintro e wx ⟨rfl, h1⟩
  have HT : Hid (Below W.heap.size W wx) := h1
  clear h1 HC X0 X1 Y0 Y1
  dsimp only
  go_wp2_with fail
  exact HN.out wx _ _ _ HT.out

set_option maxRecDepth 100000 in
set_option maxHeartbeats 12800000 in
theorem bm_p6 {x1 x2 x3 x4 x5 x6 x7 x8 x9 x10 x11 x12 x13 x14 x15 x16 x17 x18 x19 x20 x21 x22 x23 x24 x25 x26 x27 x28 x29 x30 x31 x32 x33 x34 x35 x36 x37 x38 x39 x40 x41 x42 x43 x44 x45 x46 x47 x48 x49 x50 x51 x52 x53 x54 x55 x56 x57 x58 x59 x60 x61 x62 x63 x64 x65 x66 x67 x68 x69 x70 x71 x72 x73 x74 x75 x76 x77 x78 x79 x80 x81 x82 x83 x84 x85 x86 x87 x88 x89 x90 x91 x92 x93 x94 x95 x96 : Value} {Q : Exit → Act → World → Prop} {W : World} {n : Int} (A : FulOk14) (hn : -9223372036854775808 ≤ n ∧ n < 9223372036854775808)
    (hN : ∀ (N : Int) (a : Option Addr) (l c : Nat) (ws : List Int) (err : Int) (wx : World) (y38 y39 y40 y41 y42 : Value), Nums wx a l c ws → ResFull n N ws err → Below W.heap.size W wx → Q .normal ⟨#[.int .i64 n, x1, x2, x3, x4, x5, x6, x7, x8, x9, .pointer (some ⟨wx.heap.size, 0, none⟩), .int .i64 err, x12, x13, x14, x15, x16, x17, x18, x19, x20, x21, x22, x23, x24, x25, x26, x27, x28, x29, x30, x31, x32, x33, x34, x35, x36, x37, y38, y39, y40, y41, y42, x43, x44, x45, x46, x47, x48, x49, x50, x51, x52, x53, x54, x55, x56, x57, x58, x59, x60, x61, x62, x63, x64, x65, x66, x67, x68, x69, x70, x71, x72, x73, x74, x75, x76, x77, x78, x79, x80, x81, x82, x83, x84, x85, x86, x87, x88, x89, x90, x91, x92, x93, x94, x95, x96], []⟩ (wx.alloc (.cells #[.int .i64 N, .slice a l c] 25))) :
    Code.wp Try.prog ((Try.f3.body.bind (pcAt 6)).getD .skip) Q ⟨#[.int .i64 n, x1, x2, x3, x4, x5, x6, x7, x8, x9, x10, x11, x12, x13, x14, x15, x16, x17, x18, x19, x20, x21, x22, x23, x24, x25, x26, x27, x28, x29, x30, x31, x32, x33, x34, x35, x36, x37, x38, x39, x40, x41, x42, x43, x44, x45, x46, x47, x48, x49, x50, x51, x52, x53, x54, x55, x56, x57, x58, x59, x60, x61, x62, x63, x64, x65, x66, x67, x68, x69, x70, x71, x72, x73, x74, x75, x76, x77, x78, x79, x80, x81, x82, x83, x84, x85, x86, x87, x88, x89, x90, x91, x92, x93, x94, x95, x96], []⟩ W := by
  conv => arg 2; whnf
  have HN : Hid (∀ (N : Int) (a : Option Addr) (l c : Nat) (ws : List Int) (err : Int) (wx : World) (y38 y39 y40 y41 y42 : Value), Nums wx a l c ws → ResFull n N ws err → Below W.heap.size W wx → Q .normal ⟨#[.int .i64 n, x1, x2, x3, x4, x5, x6, x7, x8, x9, .pointer (some ⟨wx.heap.size, 0, none⟩), .int .i64 err, x12, x13, x14, x15, x16, x17, x18, x19, x20, x21, x22, x23, x24, x25, x26, x27, x28, x29, x30, x31, x32, x33, x34, x35, x36, x37, y38, y39, y40, y41, y42, x43, x44, x45, x46, x47, x48, x49, x50, x51, x52, x53, x54, x55, x56, x57, x58, x59, x60, x61, x62, x63, x64, x65, x66, x67, x68, x69, x70, x71, x72, x73, x74, x75, x76, x77, x78, x79, x80, x81, x82, x83, x84, x85, x86, x87, x88, x89, x90, x91, x92, x93, x94, x95, x96], []⟩ (wx.alloc (.cells #[.int .i64 N, .slice a l c] 25))) := hN
  clear hN
  have HC := (show Hid _ from A n W hn)
  go_wp2_with fail
  refine Calls.mono HC.out ?_
  rintro e wx ⟨N, a, l, c, ws, err, rfl, h1, h2, h3⟩
  have HT : Hid (Nums wx a l c ws ∧ ResFull n N ws err ∧ Below W.heap.size W wx) := ⟨h1, h2, h3⟩
  clear h1 h2 h3 HC
  dsimp only
  go_wp2_with fail
  exact HN.out N a l c ws err wx _ _ _ _ _ HT.out.1 HT.out.2.1 HT.out.2.2

set_option maxRecDepth 100000 in
set_option maxHeartbeats 12800000 in
theorem bm_p7 {x1 x2 x3 x4 x5 x6 x7 x8 x9 x10 x11 x12 x13 x14 x15 x16 x17 x18 x19 x20 x21 x22 x23 x24 x25 x26 x27 x28 x29 x30 x31 x32 x33 x34 x35 x36 x37 x38 x39 x40 x41 x42 x43 x44 x45 x46 x47 x48 x49 x50 x51 x52 x53 x54 x55 x56 x57 x58 x59 x60 x61 x62 x63 x64 x65 x66 x67 x68 x69 x70 x71 x72 x73 x74 x75 x76 x77 x78 x79 x80 x81 x82 x83 x84 x85 x86 x87 x88 x89 x90 x91 x92 x93 x94 x95 x96 : Value} {Q : Exit → Act → World → Prop} {W : World} {n : Int} 
    (hN : ∀ (N : Int) (a : Option Addr) (l c : Nat) (ws : List Int) (err : Int) (wx : World) (y43 y44 y45 y46 y47 : Value), Nums wx a l c ws → ResFull n N ws err → Below W.heap.size W wx → Q .normal ⟨#[.int .i64 n, x1, x2, x3, x4, x5, x6, x7, x8, x9, x10, x11, .pointer (some ⟨wx.heap.size, 0, none⟩), .int .i64 err, x14, x15, x16, x17, x18, x19, x20, x21, x22, x23, x24, x25, x26, x27, x28, x29, x30, x31, x32, x33, x34, x35, x36, x37, x38, x39, x40, x41, x42, y43, y44, y45, y46, y47, x48, x49, x50, x51, x52, x53, x54, x55, x56, x57, x58, x59, x60, x61, x62, x63, x64, x65, x66, x67, x68, x69, x70, x71, x72, x73, x74, x75, x76, x77, x78, x79, x80, x81, x82, x83, x84, x85, x86, x87, x88, x89, x90, x91, x92, x93, x94, x95, x96], []⟩ (wx.alloc (.cells #[.int .i64 N, .slice a l c] 25))) :
    Code.wp Try.prog ((Try.f3.body.bind (pcAt 7)).getD .skip) Q ⟨#[.int .i64 n, x1, x2, x3, x4, x5, x6, x7, x8, x9, x10, x11, x12, x13, x14, x15, x16, x17, x18, x19, x20, x21, x22, x23, x24, x25, x26, x27, x28, x29, x30, x31, x32, x33, x34, x35, x36, x37, x38, x39, x40, x41, x42, x43, x44, x45, x46, x47, x48, x49, x50, x51, x52, x53, x54, x55, x56, x57, x58, x59, x60, x61, x62, x63, x64, x65, x66, x67, x68, x69, x70, x71, x72, x73, x74, x75, x76, x77, x78, x79, x80, x81, x82, x83, x84, x85, x86, x87, x88, x89, x90, x91, x92, x93, x94, x95, x96], []⟩ W := by
  conv => arg 2; whnf
  have HN : Hid (∀ (N : Int) (a : Option Addr) (l c : Nat) (ws : List Int) (err : Int) (wx : World) (y43 y44 y45 y46 y47 : Value), Nums wx a l c ws → ResFull n N ws err → Below W.heap.size W wx → Q .normal ⟨#[.int .i64 n, x1, x2, x3, x4, x5, x6, x7, x8, x9, x10, x11, .pointer (some ⟨wx.heap.size, 0, none⟩), .int .i64 err, x14, x15, x16, x17, x18, x19, x20, x21, x22, x23, x24, x25, x26, x27, x28, x29, x30, x31, x32, x33, x34, x35, x36, x37, x38, x39, x40, x41, x42, y43, y44, y45, y46, y47, x48, x49, x50, x51, x52, x53, x54, x55, x56, x57, x58, x59, x60, x61, x62, x63, x64, x65, x66, x67, x68, x69, x70, x71, x72, x73, x74, x75, x76, x77, x78, x79, x80, x81, x82, x83, x84, x85, x86, x87, x88, x89, x90, x91, x92, x93, x94, x95, x96], []⟩ (wx.alloc (.cells #[.int .i64 N, .slice a l c] 25))) := hN
  clear hN
  have HC := (show Hid _ from r14full_any n W)
  go_wp2_with fail
  refine Calls.mono HC.out ?_
  rintro e wx ⟨N, a, l, c, ws, err, rfl, h1, h2, h3⟩
  have HT : Hid (Nums wx a l c ws ∧ ResFull n N ws err ∧ Below W.heap.size W wx) := ⟨h1, h2, h3⟩
  clear h1 h2 h3 HC
  dsimp only
  go_wp2_with fail
  exact HN.out N a l c ws err wx _ _ _ _ _ HT.out.1 HT.out.2.1 HT.out.2.2

set_option maxRecDepth 100000 in
set_option maxHeartbeats 12800000 in
theorem bm_p8 {x0 x1 x2 x3 x4 x5 x6 x7 x8 x9 x11 x13 x14 x15 x16 x17 x18 x19 x20 x21 x22 x23 x24 x25 x26 x27 x28 x29 x30 x31 x32 x33 x34 x35 x36 x37 x38 x39 x40 x41 x42 x43 x44 x45 x46 x47 x48 x49 x50 x51 x52 x53 x54 x55 x56 x57 x58 x59 x60 x61 x62 x63 x64 x65 x66 x67 x68 x69 x70 x71 x72 x73 x74 x75 x76 x77 x78 x79 x80 x81 x82 x83 x84 x85 x86 x87 x88 x89 x90 x91 x92 x93 x94 x95 x96 : Value} {Q : Exit → Act → World → Prop} {W : World} {g h : Nat} {N : Int} {a b : Option Addr} {la ca lb cb : Nat} {ws : List Int} (X0 : W.cell? ⟨g, 0, none⟩ = some (.int .i64 N)) (X1 : W.cell? ⟨g, 1, none⟩ = some (.slice a la ca)) (Y0 : W.cell? ⟨h, 0, none⟩ = some (.int .i64 N)) (Y1 : W.cell? ⟨h, 1, none⟩ = some (.slice b lb cb)) (hx : Nums W a la ca ws) (hy : Nums W b lb cb ws)
    (hN : ∀ (wx : World) (y48 y49 y50 : Value), Below W.heap.size W wx → Q .normal ⟨#[x0, x1, x2, x3, x4, x5, x6, x7, x8, x9, .pointer (some ⟨g, 0, none⟩), x11, .pointer (some ⟨h, 0, none⟩), x13, .bool true, x15, x16, x17, x18, x19, x20, x21, x22, x23, x24, x25, x26, x27, x28, x29, x30, x31, x32, x33, x34, x35, x36, x37, x38, x39, x40, x41, x42, x43, x44, x45, x46, x47, y48, y49, y50, x51, x52, x53, x54, x55, x56, x57, x58, x59, x60, x61, x62, x63, x64, x65, x66, x67, x68, x69, x70, x71, x72, x73, x74, x75, x76, x77, x78, x79, x80, x81, x82, x83, x84, x85, x86, x87, x88, x89, x90, x91, x92, x93, x94, x95, x96], []⟩ wx) :
    Code.wp Try.prog ((Try.f3.body.bind (pcAt 8)).getD .skip) Q ⟨#[x0, x1, x2, x3, x4, x5, x6, x7, x8, x9, .pointer (some ⟨g, 0, none⟩), x11, .pointer (some ⟨h, 0, none⟩), x13, x14, x15, x16, x17, x18, x19, x20, x21, x22, x23, x24, x25, x26, x27, x28, x29, x30, x31, x32, x33, x34, x35, x36, x37, x38, x39, x40, x41, x42, x43, x44, x45, x46, x47, x48, x49, x50, x51, x52, x53, x54, x55, x56, x57, x58, x59, x60, x61, x62, x63, x64, x65, x66, x67, x68, x69, x70, x71, x72, x73, x74, x75, x76, x77, x78, x79, x80, x81, x82, x83, x84, x85, x86, x87, x88, x89, x90, x91, x92, x93, x94, x95, x96], []⟩ W := by
  conv => arg 2; whnf
  have HN : Hid (∀ (wx : World) (y48 y49 y50 : Value), Below W.heap.size W wx → Q .normal ⟨#[x0, x1, x2, x3, x4, x5, x6, x7, x8, x9, .pointer (some ⟨g, 0, none⟩), x11, .pointer (some ⟨h, 0, none⟩), x13, .bool true, x15, x16, x17, x18, x19, x20, x21, x22, x23, x24, x25, x26, x27, x28, x29, x30, x31, x32, x33, x34, x35, x36, x37, x38, x39, x40, x41, x42, x43, x44, x45, x46, x47, y48, y49, y50, x51, x52, x53, x54, x55, x56, x57, x58, x59, x60, x61, x62, x63, x64, x65, x66, x67, x68, x69, x70, x71, x72, x73, x74, x75, x76, x77, x78, x79, x80, x81, x82, x83, x84, x85, x86, x87, x88, x89, x90, x91, x92, x93, x94, x95, x96], []⟩ wx) := hN
  clear hN
  have HC : Hid (Calls Try.prog 8 #[.agg #[.int .i64 N, .slice a la ca], .agg #[.int .i64 N, .slice b lb cb]] W fun e w' => e = .returned (.bool true) ∧ Below W.heap.size W w') := (r14same_any N N a b la ca lb cb ws ws W hx hy).mono fun e w' q => ⟨by rw [q.1]; simp, q.2⟩
  clear hx hy
  go_wp2_with fail
  refine Calls.mono HC.out ?_
  rintro e wx ⟨rfl, h1⟩
  have HT : Hid (Below W.heap.size W wx) := h1
  clear h1 HC X0 X1 Y0 Y1
  dsimp only
  go_wp2_with fail
  exact HN.out wx _ _ _ HT.out

set_option maxRecDepth 100000 in
set_option maxHeartbeats 12800000 in
theorem bm_p9 {x2 x3 x4 x5 x6 x7 x8 x9 x10 x11 x12 x13 x14 x15 x16 x17 x18 x19 x20 x21 x22 x23 x24 x25 x26 x27 x28 x29 x30 x31 x32 x33 x34 x35 x36 x37 x38 x39 x40 x41 x42 x43 x44 x45 x46 x47 x48 x49 x50 x51 x52 x53 x54 x55 x56 x57 x58 x59 x60 x61 x62 x63 x64 x65 x66 x67 x68 x69 x70 x71 x72 x73 x74 x75 x76 x77 x78 x79 x80 x81 x82 x83 x84 x85 x86 x87 x88 x89 x90 x91 x92 x93 x94 x95 x96 : Value} {Q : Exit → Act → World → Prop} {W : World} {n : Int} {p : Option Addr} {len cap : Nat} {xs : List Int} (A : OfOk14) (hn : -9223372036854775808 ≤ n ∧ n < 9223372036854775808) (hL : Lsts W p len cap xs) (hl : len ≤ 100000)
    (hN : ∀ (N : Int) (a : Option Addr) (l c : Nat) (ws : List Int) (err : Int) (wx : World) (y51 y52 y53 y54 y55 y56 : Value), Nums wx a l c ws → ResOf n xs N ws err → Below W.heap.size W wx → Q .normal ⟨#[.int .i64 n, .slice p len cap, x2, x3, x4, x5, x6, x7, x8, x9, x10, x11, x12, x13, x14, .pointer (some ⟨wx.heap.size, 0, none⟩), .int .i64 err, x17, x18, x19, x20, x21, x22, x23, x24, x25, x26, x27, x28, x29, x30, x31, x32, x33, x34, x35, x36, x37, x38, x39, x40, x41, x42, x43, x44, x45, x46, x47, x48, x49, x50, y51, y52, y53, y54, y55, y56, x57, x58, x59, x60, x61, x62, x63, x64, x65, x66, x67, x68, x69, x70, x71, x72, x73, x74, x75, x76, x77, x78, x79, x80, x81, x82, x83, x84, x85, x86, x87, x88, x89, x90, x91, x92, x93, x94, x95, x96], []⟩ (wx.alloc (.cells #[.int .i64 N, .slice a l c] 25))) :
    Code.wp Try.prog ((Try.f3.body.bind (pcAt 9)).getD .skip) Q ⟨#[.int .i64 n, .slice p len cap, x2, x3, x4, x5, x6, x7, x8, x9, x10, x11, x12, x13, x14, x15, x16, x17, x18, x19, x20, x21, x22, x23, x24, x25, x26, x27, x28, x29, x30, x31, x32, x33, x34, x35, x36, x37, x38, x39, x40, x41, x42, x43, x44, x45, x46, x47, x48, x49, x50, x51, x52, x53, x54, x55, x56, x57, x58, x59, x60, x61, x62, x63, x64, x65, x66, x67, x68, x69, x70, x71, x72, x73, x74, x75, x76, x77, x78, x79, x80, x81, x82, x83, x84, x85, x86, x87, x88, x89, x90, x91, x92, x93, x94, x95, x96], []⟩ W := by
  conv => arg 2; whnf
  have HN : Hid (∀ (N : Int) (a : Option Addr) (l c : Nat) (ws : List Int) (err : Int) (wx : World) (y51 y52 y53 y54 y55 y56 : Value), Nums wx a l c ws → ResOf n xs N ws err → Below W.heap.size W wx → Q .normal ⟨#[.int .i64 n, .slice p len cap, x2, x3, x4, x5, x6, x7, x8, x9, x10, x11, x12, x13, x14, .pointer (some ⟨wx.heap.size, 0, none⟩), .int .i64 err, x17, x18, x19, x20, x21, x22, x23, x24, x25, x26, x27, x28, x29, x30, x31, x32, x33, x34, x35, x36, x37, x38, x39, x40, x41, x42, x43, x44, x45, x46, x47, x48, x49, x50, y51, y52, y53, y54, y55, y56, x57, x58, x59, x60, x61, x62, x63, x64, x65, x66, x67, x68, x69, x70, x71, x72, x73, x74, x75, x76, x77, x78, x79, x80, x81, x82, x83, x84, x85, x86, x87, x88, x89, x90, x91, x92, x93, x94, x95, x96], []⟩ (wx.alloc (.cells #[.int .i64 N, .slice a l c] 25))) := hN
  clear hN
  have HC := (show Hid _ from A n p len cap xs W hn hL (by omega))
  go_wp2_with fail
  refine Calls.mono HC.out ?_
  rintro e wx ⟨N, a, l, c, ws, err, rfl, h1, h2, h3⟩
  have HT : Hid (Nums wx a l c ws ∧ ResOf n xs N ws err ∧ Below W.heap.size W wx) := ⟨h1, h2, h3⟩
  clear h1 h2 h3 HC
  dsimp only
  go_wp2_with fail
  exact HN.out N a l c ws err wx _ _ _ _ _ _ HT.out.1 HT.out.2.1 HT.out.2.2

set_option maxRecDepth 100000 in
set_option maxHeartbeats 12800000 in
theorem bm_p10 {x2 x3 x4 x5 x6 x7 x8 x9 x10 x11 x12 x13 x14 x15 x16 x17 x18 x19 x20 x21 x22 x23 x24 x25 x26 x27 x28 x29 x30 x31 x32 x33 x34 x35 x36 x37 x38 x39 x40 x41 x42 x43 x44 x45 x46 x47 x48 x49 x50 x51 x52 x53 x54 x55 x56 x57 x58 x59 x60 x61 x62 x63 x64 x65 x66 x67 x68 x69 x70 x71 x72 x73 x74 x75 x76 x77 x78 x79 x80 x81 x82 x83 x84 x85 x86 x87 x88 x89 x90 x91 x92 x93 x94 x95 x96 : Value} {Q : Exit → Act → World → Prop} {W : World} {n : Int} {p : Option Addr} {len cap : Nat} {xs : List Int} (hL : Lsts W p len cap xs) (hl : len ≤ 100000)
    (hN : ∀ (N : Int) (a : Option Addr) (l c : Nat) (ws : List Int) (err : Int) (wx : World) (y57 y58 y59 y60 y61 y62 : Value), Nums wx a l c ws → ResOf n xs N ws err → Below W.heap.size W wx → Q .normal ⟨#[.int .i64 n, .slice p len cap, x2, x3, x4, x5, x6, x7, x8, x9, x10, x11, x12, x13, x14, x15, x16, .pointer (some ⟨wx.heap.size, 0, none⟩), .int .i64 err, x19, x20, x21, x22, x23, x24, x25, x26, x27, x28, x29, x30, x31, x32, x33, x34, x35, x36, x37, x38, x39, x40, x41, x42, x43, x44, x45, x46, x47, x48, x49, x50, x51, x52, x53, x54, x55, x56, y57, y58, y59, y60, y61, y62, x63, x64, x65, x66, x67, x68, x69, x70, x71, x72, x73, x74, x75, x76, x77, x78, x79, x80, x81, x82, x83, x84, x85, x86, x87, x88, x89, x90, x91, x92, x93, x94, x95, x96], []⟩ (wx.alloc (.cells #[.int .i64 N, .slice a l c] 25))) :
    Code.wp Try.prog ((Try.f3.body.bind (pcAt 10)).getD .skip) Q ⟨#[.int .i64 n, .slice p len cap, x2, x3, x4, x5, x6, x7, x8, x9, x10, x11, x12, x13, x14, x15, x16, x17, x18, x19, x20, x21, x22, x23, x24, x25, x26, x27, x28, x29, x30, x31, x32, x33, x34, x35, x36, x37, x38, x39, x40, x41, x42, x43, x44, x45, x46, x47, x48, x49, x50, x51, x52, x53, x54, x55, x56, x57, x58, x59, x60, x61, x62, x63, x64, x65, x66, x67, x68, x69, x70, x71, x72, x73, x74, x75, x76, x77, x78, x79, x80, x81, x82, x83, x84, x85, x86, x87, x88, x89, x90, x91, x92, x93, x94, x95, x96], []⟩ W := by
  conv => arg 2; whnf
  have HN : Hid (∀ (N : Int) (a : Option Addr) (l c : Nat) (ws : List Int) (err : Int) (wx : World) (y57 y58 y59 y60 y61 y62 : Value), Nums wx a l c ws → ResOf n xs N ws err → Below W.heap.size W wx → Q .normal ⟨#[.int .i64 n, .slice p len cap, x2, x3, x4, x5, x6, x7, x8, x9, x10, x11, x12, x13, x14, x15, x16, .pointer (some ⟨wx.heap.size, 0, none⟩), .int .i64 err, x19, x20, x21, x22, x23, x24, x25, x26, x27, x28, x29, x30, x31, x32, x33, x34, x35, x36, x37, x38, x39, x40, x41, x42, x43, x44, x45, x46, x47, x48, x49, x50, x51, x52, x53, x54, x55, x56, y57, y58, y59, y60, y61, y62, x63, x64, x65, x66, x67, x68, x69, x70, x71, x72, x73, x74, x75, x76, x77, x78, x79, x80, x81, x82, x83, x84, x85, x86, x87, x88, x89, x90, x91, x92, x93, x94, x95, x96], []⟩ (wx.alloc (.cells #[.int .i64 N, .slice a l c] 25))) := hN
  clear hN
  have HC := (show Hid _ from r14of_any n p len cap xs W hL (by omega))
  go_wp2_with fail
  refine Calls.mono HC.out ?_
  rintro e wx ⟨N, a, l, c, ws, err, rfl, h1, h2, h3⟩
  have HT : Hid (Nums wx a l c ws ∧ ResOf n xs N ws err ∧ Below W.heap.size W wx) := ⟨h1, h2, h3⟩
  clear h1 h2 h3 HC
  dsimp only
  go_wp2_with fail
  exact HN.out N a l c ws err wx _ _ _ _ _ _ HT.out.1 HT.out.2.1 HT.out.2.2

set_option maxRecDepth 100000 in
set_option maxHeartbeats 12800000 in
theorem bm_p11 {x0 x1 x2 x3 x4 x5 x6 x7 x8 x9 x10 x11 x12 x13 x14 x16 x18 x19 x20 x21 x22 x23 x24 x25 x26 x27 x28 x29 x30 x31 x32 x33 x34 x35 x36 x37 x38 x39 x40 x41 x42 x43 x44 x45 x46 x47 x48 x49 x50 x51 x52 x53 x54 x55 x56 x57 x58 x59 x60 x61 x62 x63 x64 x65 x66 x67 x68 x69 x70 x71 x72 x73 x74 x75 x76 x77 x78 x79 x80 x81 x82 x83 x84 x85 x86 x87 x88 x89 x90 x91 x92 x93 x94 x95 x96 : Value} {Q : Exit → Act → World → Prop} {W : World} {g h : Nat} {N : Int} {a b : Option Addr} {la ca lb cb : Nat} {ws : List Int} (X0 : W.cell? ⟨g, 0, none⟩ = some (.int .i64 N)) (X1 : W.cell? ⟨g, 1, none⟩ = some (.slice a la ca)) (Y0 : W.cell? ⟨h, 0, none⟩ = some (.int .i64 N)) (Y1 : W.cell? ⟨h, 1, none⟩ = some (.slice b lb cb)) (hx : Nums W a la ca ws) (hy : Nums W b lb cb ws)
    (hN : ∀ (wx : World) (y63 y64 y65 : Value), Below W.heap.size W wx → Q .normal ⟨#[x0, x1, x2, x3, x4, x5, x6, x7, x8, x9, x10, x11, x12, x13, x14, .pointer (some ⟨g, 0, none⟩), x16, .pointer (some ⟨h, 0, none⟩), x18, .bool true, x20, x21, x22, x23, x24, x25, x26, x27, x28, x29, x30, x31, x32, x33, x34, x35, x36, x37, x38, x39, x40, x41, x42, x43, x44, x45, x46, x47, x48, x49, x50, x51, x52, x53, x54, x55, x56, x57, x58, x59, x60, x61, x62, y63, y64, y65, x66, x67, x68, x69, x70, x71, x72, x73, x74, x75, x76, x77, x78, x79, x80, x81, x82, x83, x84, x85, x86, x87, x88, x89, x90, x91, x92, x93, x94, x95, x96], []⟩ wx) :
    Code.wp Try.prog ((Try.f3.body.bind (pcAt 11)).getD .skip) Q ⟨#[x0, x1, x2, x3, x4, x5, x6, x7, x8, x9, x10, x11, x12, x13, x14, .pointer (some ⟨g, 0, none⟩), x16, .pointer (some ⟨h, 0, none⟩), x18, x19, x20, x21, x22, x23, x24, x25, x26, x27, x28, x29, x30, x31, x32, x33, x34, x35, x36, x37, x38, x39, x40, x41, x42, x43, x44, x45, x46, x47, x48, x49, x50, x51, x52, x53, x54, x55, x56, x57, x58, x59, x60, x61, x62, x63, x64, x65, x66, x67, x68, x69, x70, x71, x72, x73, x74, x75, x76, x77, x78, x79, x80, x81, x82, x83, x84, x85, x86, x87, x88, x89, x90, x91, x92, x93, x94, x95, x96], []⟩ W := by
  conv => arg 2; whnf
  have HN : Hid (∀ (wx : World) (y63 y64 y65 : Value), Below W.heap.size W wx → Q .normal ⟨#[x0, x1, x2, x3, x4, x5, x6, x7, x8, x9, x10, x11, x12, x13, x14, .pointer (some ⟨g, 0, none⟩), x16, .pointer (some ⟨h, 0, none⟩), x18, .bool true, x20, x21, x22, x23, x24, x25, x26, x27, x28, x29, x30, x31, x32, x33, x34, x35, x36, x37, x38, x39, x40, x41, x42, x43, x44, x45, x46, x47, x48, x49, x50, x51, x52, x53, x54, x55, x56, x57, x58, x59, x60, x61, x62, y63, y64, y65, x66, x67, x68, x69, x70, x71, x72, x73, x74, x75, x76, x77, x78, x79, x80, x81, x82, x83, x84, x85, x86, x87, x88, x89, x90, x91, x92, x93, x94, x95, x96], []⟩ wx) := hN
  clear hN
  have HC : Hid (Calls Try.prog 8 #[.agg #[.int .i64 N, .slice a la ca], .agg #[.int .i64 N, .slice b lb cb]] W fun e w' => e = .returned (.bool true) ∧ Below W.heap.size W w') := (r14same_any N N a b la ca lb cb ws ws W hx hy).mono fun e w' q => ⟨by rw [q.1]; simp, q.2⟩
  clear hx hy
  go_wp2_with fail
  refine Calls.mono HC.out ?_
  rintro e wx ⟨rfl, h1⟩
  have HT : Hid (Below W.heap.size W wx) := h1
  clear h1 HC X0 X1 Y0 Y1
  dsimp only
  go_wp2_with fail
  exact HN.out wx _ _ _ HT.out

set_option maxRecDepth 100000 in
set_option maxHeartbeats 12800000 in
theorem bm_p12 {x0 x1 x2 x3 x4 x5 x6 x7 x8 x9 x10 x11 x12 x13 x14 x15 x16 x17 x18 x19 x20 x21 x22 x23 x24 x25 x26 x27 x28 x29 x30 x31 x32 x33 x34 x35 x36 x37 x38 x39 x40 x41 x42 x43 x44 x45 x46 x47 x48 x49 x50 x51 x52 x53 x54 x55 x56 x57 x58 x59 x60 x61 x62 x63 x64 x65 x66 x67 x68 x69 x70 x71 x72 x73 x74 x75 x76 x77 x78 x79 x80 x81 x82 x83 x84 x85 x86 x87 x88 x89 x90 x91 x92 x93 x94 x95 x96 : Value} {Q : Exit → Act → World → Prop} {W : World}  (A : FulOk14)
    (hN : ∀ (N : Int) (a : Option Addr) (l c : Nat) (ws : List Int) (err : Int) (wx : World) (y66 y67 y68 y69 : Value), Nums wx a l c ws → ResFull 1 N ws err → Below W.heap.size W wx → Q .normal ⟨#[x0, x1, x2, x3, x4, x5, x6, x7, x8, x9, x10, x11, x12, x13, x14, x15, x16, x17, x18, x19, .pointer (some ⟨wx.heap.size, 0, none⟩), .int .i64 err, x22, x23, x24, x25, x26, x27, x28, x29, x30, x31, x32, x33, x34, x35, x36, x37, x38, x39, x40, x41, x42, x43, x44, x45, x46, x47, x48, x49, x50, x51, x52, x53, x54, x55, x56, x57, x58, x59, x60, x61, x62, x63, x64, x65, y66, y67, y68, y69, x70, x71, x72, x73, x74, x75, x76, x77, x78, x79, x80, x81, x82, x83, x84, x85, x86, x87, x88, x89, x90, x91, x92, x93, x94, x95, x96], []⟩ (wx.alloc (.cells #[.int .i64 N, .slice a l c] 25))) :
    Code.wp Try.prog ((Try.f3.body.bind (pcAt 12)).getD .skip) Q ⟨#[x0, x1, x2, x3, x4, x5, x6, x7, x8, x9, x10, x11, x12, x13, x14, x15, x16, x17, x18, x19, x20, x21, x22, x23, x24, x25, x26, x27, x28, x29, x30, x31, x32, x33, x34, x35, x36, x37, x38, x39, x40, x41, x42, x43, x44, x45, x46, x47, x48, x49, x50, x51, x52, x53, x54, x55, x56, x57, x58, x59, x60, x61, x62, x63, x64, x65, x66, x67, x68, x69, x70, x71, x72, x73, x74, x75, x76, x77, x78, x79, x80, x81, x82, x83, x84, x85, x86, x87, x88, x89, x90, x91, x92, x93, x94, x95, x96], []⟩ W := by
  conv => arg 2; whnf
  have HN : Hid (∀ (N : Int) (a : Option Addr) (l c : Nat) (ws : List Int) (err : Int) (wx : World) (y66 y67 y68 y69 : Value), Nums wx a l c ws → ResFull 1 N ws err → Below W.heap.size W wx → Q .normal ⟨#[x0, x1, x2, x3, x4, x5, x6, x7, x8, x9, x10, x11, x12, x13, x14, x15, x16, x17, x18, x19, .pointer (some ⟨wx.heap.size, 0, none⟩), .int .i64 err, x22, x23, x24, x25, x26, x27, x28, x29, x30, x31, x32, x33, x34, x35, x36, x37, x38, x39, x40, x41, x42, x43, x44, x45, x46, x47, x48, x49, x50, x51, x52, x53, x54, x55, x56, x57, x58, x59, x60, x61, x62, x63, x64, x65, y66, y67, y68, y69, x70, x71, x72, x73, x74, x75, x76, x77, x78, x79, x80, x81, x82, x83, x84, x85, x86, x87, x88, x89, x90, x91, x92, x93, x94, x95, x96], []⟩ (wx.alloc (.cells #[.int .i64 N, .slice a l c] 25))) := hN
  clear hN
  have HC := (show Hid _ from A 1 W (by decide))
  go_wp2_with fail
  refine Calls.mono HC.out ?_
  rintro e wx ⟨N, a, l, c, ws, err, rfl, h1, h2, h3⟩
  have HT : Hid (Nums wx a l c ws ∧ ResFull 1 N ws err ∧ Below W.heap.size W wx) := ⟨h1, h2, h3⟩
  clear h1 h2 h3 HC
  dsimp only
  go_wp2_with fail
  exact HN.out N a l c ws err wx _ _ _ _ HT.out.1 HT.out.2.1 HT.out.2.2

set_option maxRecDepth 100000 in
set_option maxHeartbeats 12800000 in
theorem bm_p13 {x0 x1 x2 x3 x4 x5 x7 x10 x12 x15 x17 x21 x22 x23 x24 x25 x26 x27 x28 x29 x30 x31 x32 x33 x34 x35 x36 x37 x38 x39 x40 x41 x42 x43 x44 x45 x46 x47 x48 x49 x50 x51 x52 x53 x54 x55 x56 x57 x58 x59 x60 x61 x62 x63 x64 x65 x66 x67 x68 x69 x70 x71 x72 x73 x74 x75 x76 x77 x78 x79 x80 x81 x82 x83 x84 x85 x86 x87 x88 x89 x90 x91 x92 x93 x94 x95 x96 : Value} {Q : Exit → Act → World → Prop} {W : World} {e f k : Int} {u : Nat} (cu : W.cell? ⟨u, 0, none⟩ = some (.int .i64 1))
    (hR : ∀ (y70 y71 y72 y73 y74 y75 y76 y77 y78 y79 y80 y81 y82 y83 y84 y85 y86 y87 y88 y89 y90 y91 y92 y93 y94 y95 y96 : Value), Q .ret ⟨#[x0, x1, x2, x3, .bool true, x5, .int .i64 e, x7, .int .i64 e, .bool true, x10, .int .i64 f, x12, .int .i64 f, .bool true, x15, .int .i64 k, x17, .int .i64 k, .bool true, .pointer (some ⟨u, 0, none⟩), x21, x22, x23, x24, x25, x26, x27, x28, x29, x30, x31, x32, x33, x34, x35, x36, x37, x38, x39, x40, x41, x42, x43, x44, x45, x46, x47, x48, x49, x50, x51, x52, x53, x54, x55, x56, x57, x58, x59, x60, x61, x62, x63, x64, x65, x66, x67, x68, x69, y70, y71, y72, y73, y74, y75, y76, y77, y78, y79, y80, y81, y82, y83, y84, y85, y86, y87, y88, y89, y90, y91, y92, y93, y94, y95, y96], []⟩ W) :
    Code.wp Try.prog ((Try.f3.body.bind (pcFrom 13)).getD .skip) Q ⟨#[x0, x1, x2, x3, x4, x5, .int .i64 e, x7, .int .i64 e, .bool true, x10, .int .i64 f, x12, .int .i64 f, .bool true, x15, .int .i64 k, x17, .int .i64 k, .bool true, .pointer (some ⟨u, 0, none⟩), x21, x22, x23, x24, x25, x26, x27, x28, x29, x30, x31, x32, x33, x34, x35, x36, x37, x38, x39, x40, x41, x42, x43, x44, x45, x46, x47, x48, x49, x50, x51, x52, x53, x54, x55, x56, x57, x58, x59, x60, x61, x62, x63, x64, x65, x66, x67, x68, x69, x70, x71, x72, x73, x74, x75, x76, x77, x78, x79, x80, x81, x82, x83, x84, x85, x86, x87, x88, x89, x90, x91, x92, x93, x94, x95, x96], []⟩ W := by
  conv => arg 2; whnf
  have HR : Hid (∀ (y70 y71 y72 y73 y74 y75 y76 y77 y78 y79 y80 y81 y82 y83 y84 y85 y86 y87 y88 y89 y90 y91 y92 y93 y94 y95 y96 : Value), Q .ret ⟨#[x0, x1, x2, x3, .bool true, x5, .int .i64 e, x7, .int .i64 e, .bool true, x10, .int .i64 f, x12, .int .i64 f, .bool true, x15, .int .i64 k, x17, .int .i64 k, .bool true, .pointer (some ⟨u, 0, none⟩), x21, x22, x23, x24, x25, x26, x27, x28, x29, x30, x31, x32, x33, x34, x35, x36, x37, x38, x39, x40, x41, x42, x43, x44, x45, x46, x47, x48, x49, x50, x51, x52, x53, x54, x55, x56, x57, x58, x59, x60, x61, x62, x63, x64, x65, x66, x67, x68, x69, y70, y71, y72, y73, y74, y75, y76, y77, y78, y79, y80, y81, y82, y83, y84, y85, y86, y87, y88, y89, y90, y91, y92, y93, y94, y95, y96], []⟩ W) := hR
  clear hR
  have k1 : (e == e) = true := by simp
  have k2 : (f == f) = true := by simp
  have k3 : (k == k) = true := by simp
  go_wp2_with fail
  exact HR.out  _ _ _ _ _ _ _ _ _ _ _ _ _ _ _ _ _ _ _ _ _ _ _ _ _ _ _ 

set_option maxRecDepth 100000 in
theorem bm_ret {x0 x1 x2 x3 x5 x6 x7 x8 x9 x10 x11 x12 x13 x14 x15 x16 x17 x18 x19 x20 x21 x22 x23 x24 x25 x26 x27 x28 x29 x30 x31 x32 x33 x34 x35 x36 x37 x38 x39 x40 x41 x42 x43 x44 x45 x46 x47 x48 x49 x50 x51 x52 x53 x54 x55 x56 x57 x58 x59 x60 x61 x62 x63 x64 x65 x66 x67 x68 x69 x70 x71 x72 x73 x74 x75 x76 x77 x78 x79 x80 x81 x82 x83 x84 x85 x86 x87 x88 x89 x90 x91 x92 x93 x94 x95 x96 : Value}  {post : Ending → World → Prop} {W : World} (h : post (.returned (.bool true)) W) : bodyPost Try.prog Try.f3 post .ret ⟨#[x0, x1, x2, x3, .bool true, x5, x6, x7, x8, x9, x10, x11, x12, x13, x14, x15, x16, x17, x18, x19, x20, x21, x22, x23, x24, x25, x26, x27, x28, x29, x30, x31, x32, x33, x34, x35, x36, x37, x38, x39, x40, x41, x42, x43, x44, x45, x46, x47, x48, x49, x50, x51, x52, x53, x54, x55, x56, x57, x58, x59, x60, x61, x62, x63, x64, x65, x66, x67, x68, x69, x70, x71, x72, x73, x74, x75, x76, x77, x78, x79, x80, x81, x82, x83, x84, x85, x86, x87, x88, x89, x90, x91, x92, x93, x94, x95, x96], []⟩ W :=
  bodyPost_ret (v := .bool true) (by simp [results, Try.results3, go_sem]) rfl h

set_option maxRecDepth 100000 in
set_option maxHeartbeats 12800000 in
theorem makes14_walk (AN : NewOk14) (AF : FulOk14) (AO : OfOk14) (n : Int) (p : Option Addr) (len cap : Nat) (xs : List Int) (w : World) (hn : -9223372036854775808 ≤ n ∧ n < 9223372036854775808) (hL : Lsts w p len cap xs) : Calls Try.prog 3 #[.int .i64 n, .slice p len cap] w fun e w' => e = .returned (.bool true) ∧ Below w.heap.size w w' := by
  go_enter Try.func3, Try.ntmps3
  refine pcSeq (fun Q0 n0 r0 _ => bm_p0 ?_)
  refine n0 _ _ (pcSeq (fun Q1 n1 r1 _ => bm_p1 ?_ ?_))
  rotate_left
  · intros
    exact r1 _ _ (bm_ret ⟨rfl, Below.refl _ _⟩)
  intros
  rename_i hl
  refine n1 _ _ (pcSeq (fun Q2 n2 r2 _ => bm_p3 AN hn ?_))
  intro N1 a1 l1 c1 ws1 e1 w1
  intros
  rename_i x1 q1 b1
  have v1 := balloc w1 (.cells #[.int .i64 N1, .slice a1 l1 c1] 25)
  have z1 : (w1.alloc (.cells #[.int .i64 N1, .slice a1 l1 c1] 25)).cell? ⟨w1.heap.size, 0, none⟩ = some (.int .i64 N1) := by simp
  have y1 : (w1.alloc (.cells #[.int .i64 N1, .slice a1 l1 c1] 25)).cell? ⟨w1.heap.size, 1, none⟩ = some (.slice a1 l1 c1) := by simp
  refine n2 _ _ (pcSeq (fun Q3 n3 r3 _ => bm_p4 ?_))
  intro N2 a2 l2 c2 ws2 e2 w2
  intros
  rename_i x2 q2 b2
  have v2 := balloc w2 (.cells #[.int .i64 N2, .slice a2 l2 c2] 25)
  have z2 : (w2.alloc (.cells #[.int .i64 N2, .slice a2 l2 c2] 25)).cell? ⟨w2.heap.size, 0, none⟩ = some (.int .i64 N2) := by simp
  have y2 : (w2.alloc (.cells #[.int .i64 N2, .slice a2 l2 c2] 25)).cell? ⟨w2.heap.size, 1, none⟩ = some (.slice a2 l2 c2) := by simp
  obtain ⟨rfl, rfl, rfl⟩ := q1.unique q2
  have t2 := bthen b2 v2
  refine n3 _ _ (pcSeq (fun Q4 n4 r4 _ => bm_p5 (bkeep t2 z1 rfl) (bkeep t2 y1 rfl) z2 y2 ((x1.below v1).below t2) (x2.below v2) ?_))
  intro u1
  intros
  rename_i d1
  have B1 := bthen (bthen (bthen b1 v1) t2) d1
  refine n4 _ _ (pcSeq (fun Q5 n5 r5 _ => bm_p6 AF hn ?_))
  intro N3 a3 l3 c3 ws3 e3 w3
  intros
  rename_i x3 q3 b3
  have v3 := balloc w3 (.cells #[.int .i64 N3, .slice a3 l3 c3] 25)
  have z3 : (w3.alloc (.cells #[.int .i64 N3, .slice a3 l3 c3] 25)).cell? ⟨w3.heap.size, 0, none⟩ = some (.int .i64 N3) := by simp
  have y3 : (w3.alloc (.cells #[.int .i64 N3, .slice a3 l3 c3] 25)).cell? ⟨w3.heap.size, 1, none⟩ = some (.slice a3 l3 c3) := by simp
  refine n5 _ _ (pcSeq (fun Q6 n6 r6 _ => bm_p7 ?_))
  intro N4 a4 l4 c4 ws4 e4 w4
  intros
  rename_i x4 q4 b4
  have v4 := balloc w4 (.cells #[.int .i64 N4, .slice a4 l4 c4] 25)
  have z4 : (w4.alloc (.cells #[.int .i64 N4, .slice a4 l4 c4] 25)).cell? ⟨w4.heap.size, 0, none⟩ = some (.int .i64 N4) := by simp
  have y4 : (w4.alloc (.cells #[.int .i64 N4, .slice a4 l4 c4] 25)).cell? ⟨w4.heap.size, 1, none⟩ = some (.slice a4 l4 c4) := by simp
  obtain ⟨rfl, rfl, rfl⟩ := q3.unique q4
  have t4 := bthen b4 v4
  refine n6 _ _ (pcSeq (fun Q7 n7 r7 _ => bm_p8 (bkeep t4 z3 rfl) (bkeep t4 y3 rfl) z4 y4 ((x3.below v3).below t4) (x4.below v4) ?_))
  intro u2
  intros
  rename_i d2
  have B2 := bthen B1 (bthen (bthen (bthen b3 v3) t4) d2)
  refine n7 _ _ (pcSeq (fun Q8 n8 r8 _ => bm_p9 AO hn (hL.below B2) hl ?_))
  intro N5 a5 l5 c5 ws5 e5 w5
  intros
  rename_i x5 q5 b5
  have v5 := balloc w5 (.cells #[.int .i64 N5, .slice a5 l5 c5] 25)
  have z5 : (w5.alloc (.cells #[.int .i64 N5, .slice a5 l5 c5] 25)).cell? ⟨w5.heap.size, 0, none⟩ = some (.int .i64 N5) := by simp
  have y5 : (w5.alloc (.cells #[.int .i64 N5, .slice a5 l5 c5] 25)).cell? ⟨w5.heap.size, 1, none⟩ = some (.slice a5 l5 c5) := by simp
  have B3 := bthen B2 (bthen b5 v5)
  refine n8 _ _ (pcSeq (fun Q9 n9 r9 _ => bm_p10 (hL.below B3) hl ?_))
  intro N6 a6 l6 c6 ws6 e6 w6
  intros
  rename_i x6 q6 b6
  have v6 := balloc w6 (.cells #[.int .i64 N6, .slice a6 l6 c6] 25)
  have z6 : (w6.alloc (.cells #[.int .i64 N6, .slice a6 l6 c6] 25)).cell? ⟨w6.heap.size, 0, none⟩ = some (.int .i64 N6) := by simp
  have y6 : (w6.alloc (.cells #[.int .i64 N6, .slice a6 l6 c6] 25)).cell? ⟨w6.heap.size, 1, none⟩ = some (.slice a6 l6 c6) := by simp
  obtain ⟨rfl, rfl, rfl⟩ := q5.unique q6
  have t6 := bthen b6 v6
  refine n9 _ _ (pcSeq (fun Q10 n10 r10 _ => bm_p11 (bkeep t6 z5 rfl) (bkeep t6 y5 rfl) z6 y6 ((x5.below v5).below t6) (x6.below v6) ?_))
  intro u3
  intros
  rename_i d3
  have B4 := bthen B3 (bthen t6 d3)
  refine n10 _ _ (pcSeq (fun Q11 n11 r11 _ => bm_p12 AF ?_))
  intro N7 a7 l7 c7 ws7 e7 w7
  intros
  rename_i x7 q7 b7
  have v7 := balloc w7 (.cells #[.int .i64 N7, .slice a7 l7 c7] 25)
  have z7 : (w7.alloc (.cells #[.int .i64 N7, .slice a7 l7 c7] 25)).cell? ⟨w7.heap.size, 0, none⟩ = some (.int .i64 N7) := by simp
  have y7 : (w7.alloc (.cells #[.int .i64 N7, .slice a7 l7 c7] 25)).cell? ⟨w7.heap.size, 1, none⟩ = some (.slice a7 l7 c7) := by simp
  have e7' := q7.one
  subst e7'
  refine n11 _ _ (bm_p13 z7 ?_)
  intros
  exact bm_ret ⟨rfl, bthen B4 (bthen b7 v7)⟩
end Go.Proofs.Ytfgccldkbolkoaa

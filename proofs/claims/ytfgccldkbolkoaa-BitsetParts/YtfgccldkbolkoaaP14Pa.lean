/-
  BitsetParts: its statements. Written by mk/p14laws.py.
-/
import Derived.Test.YtfgccldkbolkoaaP14G
namespace Go.Proofs.Ytfgccldkbolkoaa
open Go.RowKit

set_option maxRecDepth 100000 in
set_option maxHeartbeats 12800000 in
theorem bp_p0 {x2 x3 x4 x5 x6 x7 x8 x9 x10 x11 x12 x13 x14 x15 x16 x17 x18 x19 x20 x21 x22 x23 x24 x25 x26 x27 x28 x29 x30 x31 x32 x33 x34 x35 x36 x37 x38 x39 x40 x41 x42 x43 x44 x45 x46 x47 x48 x49 x50 x51 x52 x53 x54 x55 x56 x57 x58 x59 x60 x61 x62 x63 x64 x65 x66 x67 x68 x69 x70 x71 x72 x73 x74 x75 x76 x77 x78 x79 x80 x81 x82 x83 x84 x85 x86 x87 x88 x89 x90 x91 x92 x93 x94 x95 : Value} {Q : Exit → Act → World → Prop} {W : World} {M K : Int} {a b : Option Addr} {la ca lb cb : Nat} 
    (hN : Q .normal ⟨#[.agg #[.int .i64 M, .slice a la ca], .agg #[.int .i64 K, .slice b lb cb], .pointer (some ⟨W.heap.size, 0, none⟩), .pointer (some ⟨(W.heap.size + 1), 0, none⟩), .bool false, x5, x6, x7, x8, x9, x10, x11, x12, x13, x14, x15, x16, x17, x18, x19, x20, x21, x22, x23, x24, x25, x26, x27, x28, x29, x30, x31, x32, x33, x34, x35, x36, x37, x38, x39, x40, x41, x42, x43, x44, x45, x46, x47, x48, x49, x50, x51, x52, x53, x54, x55, x56, x57, x58, x59, x60, x61, x62, x63, x64, x65, x66, x67, x68, x69, x70, x71, x72, x73, x74, x75, x76, x77, x78, x79, x80, x81, x82, x83, x84, x85, x86, x87, x88, x89, x90, x91, x92, x93, x94, x95], []⟩ ((W.alloc (.cells #[.int .i64 M, .slice a la ca] 25)).alloc (.cells #[.int .i64 K, .slice b lb cb] 25))) :
    Code.wp Try.prog ((Try.f5.body.bind (pcAt 0)).getD .skip) Q ⟨#[.agg #[.int .i64 M, .slice a la ca], .agg #[.int .i64 K, .slice b lb cb], x2, x3, x4, x5, x6, x7, x8, x9, x10, x11, x12, x13, x14, x15, x16, x17, x18, x19, x20, x21, x22, x23, x24, x25, x26, x27, x28, x29, x30, x31, x32, x33, x34, x35, x36, x37, x38, x39, x40, x41, x42, x43, x44, x45, x46, x47, x48, x49, x50, x51, x52, x53, x54, x55, x56, x57, x58, x59, x60, x61, x62, x63, x64, x65, x66, x67, x68, x69, x70, x71, x72, x73, x74, x75, x76, x77, x78, x79, x80, x81, x82, x83, x84, x85, x86, x87, x88, x89, x90, x91, x92, x93, x94, x95], []⟩ W := by
  conv => arg 2; whnf
  have HN : Hid (Q .normal ⟨#[.agg #[.int .i64 M, .slice a la ca], .agg #[.int .i64 K, .slice b lb cb], .pointer (some ⟨W.heap.size, 0, none⟩), .pointer (some ⟨(W.heap.size + 1), 0, none⟩), .bool false, x5, x6, x7, x8, x9, x10, x11, x12, x13, x14, x15, x16, x17, x18, x19, x20, x21, x22, x23, x24, x25, x26, x27, x28, x29, x30, x31, x32, x33, x34, x35, x36, x37, x38, x39, x40, x41, x42, x43, x44, x45, x46, x47, x48, x49, x50, x51, x52, x53, x54, x55, x56, x57, x58, x59, x60, x61, x62, x63, x64, x65, x66, x67, x68, x69, x70, x71, x72, x73, x74, x75, x76, x77, x78, x79, x80, x81, x82, x83, x84, x85, x86, x87, x88, x89, x90, x91, x92, x93, x94, x95], []⟩ ((W.alloc (.cells #[.int .i64 M, .slice a la ca] 25)).alloc (.cells #[.int .i64 K, .slice b lb cb] 25))) := hN
  clear hN
  go_wp2_with fail
  exact HN.out   

set_option maxRecDepth 100000 in
set_option maxHeartbeats 12800000 in
theorem bp_p1 {x0 x1 x4 x5 x6 x7 x8 x9 x10 x11 x12 x13 x14 x15 x16 x17 x18 x19 x20 x21 x22 x23 x24 x25 x26 x27 x28 x29 x30 x31 x32 x33 x34 x35 x36 x37 x38 x39 x40 x41 x42 x43 x44 x45 x46 x47 x48 x49 x50 x51 x52 x53 x54 x55 x56 x57 x58 x59 x60 x61 x62 x63 x64 x65 x66 x67 x68 x69 x70 x71 x72 x73 x74 x75 x76 x77 x78 x79 x80 x81 x82 x83 x84 x85 x86 x87 x88 x89 x90 x91 x92 x93 x94 x95 : Value} {Q : Exit → Act → World → Prop} {W : World} {A B : Nat} {M K : Int} {a b : Option Addr} {la ca lb cb : Nat} {ws vs : List Int} (ha : SetVar W A M a la ca) (hb : SetVar W B K b lb cb) (hx : Nums W a la ca ws) (hy : Nums W b lb cb vs)
    (hN : ∀ (wx : World) (y4 y16 y17 y18 y19 y20 : Value), Below W.heap.size W wx → Q .normal ⟨#[x0, x1, .pointer (some ⟨A, 0, none⟩), .pointer (some ⟨B, 0, none⟩), y4, x5, x6, x7, x8, x9, x10, x11, x12, x13, x14, x15, y16, y17, y18, y19, y20, x21, x22, x23, x24, x25, x26, x27, x28, x29, x30, x31, x32, x33, x34, x35, x36, x37, x38, x39, x40, x41, x42, x43, x44, x45, x46, x47, x48, x49, x50, x51, x52, x53, x54, x55, x56, x57, x58, x59, x60, x61, x62, x63, x64, x65, x66, x67, x68, x69, x70, x71, x72, x73, x74, x75, x76, x77, x78, x79, x80, x81, x82, x83, x84, x85, x86, x87, x88, x89, x90, x91, x92, x93, x94, x95], []⟩ wx)
    (hR : ∀ (wx : World) (y16 y17 y18 y19 y20 : Value), Below W.heap.size W wx → Q .ret ⟨#[x0, x1, .pointer (some ⟨A, 0, none⟩), .pointer (some ⟨B, 0, none⟩), .bool true, x5, x6, x7, x8, x9, x10, x11, x12, x13, x14, x15, y16, y17, y18, y19, y20, x21, x22, x23, x24, x25, x26, x27, x28, x29, x30, x31, x32, x33, x34, x35, x36, x37, x38, x39, x40, x41, x42, x43, x44, x45, x46, x47, x48, x49, x50, x51, x52, x53, x54, x55, x56, x57, x58, x59, x60, x61, x62, x63, x64, x65, x66, x67, x68, x69, x70, x71, x72, x73, x74, x75, x76, x77, x78, x79, x80, x81, x82, x83, x84, x85, x86, x87, x88, x89, x90, x91, x92, x93, x94, x95], []⟩ wx) :
    Code.wp Try.prog ((Try.f5.body.bind (pcAt 1)).getD .skip) Q ⟨#[x0, x1, .pointer (some ⟨A, 0, none⟩), .pointer (some ⟨B, 0, none⟩), x4, x5, x6, x7, x8, x9, x10, x11, x12, x13, x14, x15, x16, x17, x18, x19, x20, x21, x22, x23, x24, x25, x26, x27, x28, x29, x30, x31, x32, x33, x34, x35, x36, x37, x38, x39, x40, x41, x42, x43, x44, x45, x46, x47, x48, x49, x50, x51, x52, x53, x54, x55, x56, x57, x58, x59, x60, x61, x62, x63, x64, x65, x66, x67, x68, x69, x70, x71, x72, x73, x74, x75, x76, x77, x78, x79, x80, x81, x82, x83, x84, x85, x86, x87, x88, x89, x90, x91, x92, x93, x94, x95], []⟩ W := by
  conv => arg 2; whnf
  have HN : Hid (∀ (wx : World) (y4 y16 y17 y18 y19 y20 : Value), Below W.heap.size W wx → Q .normal ⟨#[x0, x1, .pointer (some ⟨A, 0, none⟩), .pointer (some ⟨B, 0, none⟩), y4, x5, x6, x7, x8, x9, x10, x11, x12, x13, x14, x15, y16, y17, y18, y19, y20, x21, x22, x23, x24, x25, x26, x27, x28, x29, x30, x31, x32, x33, x34, x35, x36, x37, x38, x39, x40, x41, x42, x43, x44, x45, x46, x47, x48, x49, x50, x51, x52, x53, x54, x55, x56, x57, x58, x59, x60, x61, x62, x63, x64, x65, x66, x67, x68, x69, x70, x71, x72, x73, x74, x75, x76, x77, x78, x79, x80, x81, x82, x83, x84, x85, x86, x87, x88, x89, x90, x91, x92, x93, x94, x95], []⟩ wx) := hN
  have HR : Hid (∀ (wx : World) (y16 y17 y18 y19 y20 : Value), Below W.heap.size W wx → Q .ret ⟨#[x0, x1, .pointer (some ⟨A, 0, none⟩), .pointer (some ⟨B, 0, none⟩), .bool true, x5, x6, x7, x8, x9, x10, x11, x12, x13, x14, x15, y16, y17, y18, y19, y20, x21, x22, x23, x24, x25, x26, x27, x28, x29, x30, x31, x32, x33, x34, x35, x36, x37, x38, x39, x40, x41, x42, x43, x44, x45, x46, x47, x48, x49, x50, x51, x52, x53, x54, x55, x56, x57, x58, x59, x60, x61, x62, x63, x64, x65, x66, x67, x68, x69, x70, x71, x72, x73, x74, x75, x76, x77, x78, x79, x80, x81, x82, x83, x84, x85, x86, x87, x88, x89, x90, x91, x92, x93, x94, x95], []⟩ wx) := hR
  clear hN hR
  obtain ⟨a0, a1⟩ := ha.cells
  obtain ⟨b0, b1⟩ := hb.cells
  have m1 := hx.hcap
  have m2 := hx.hmax
  have m3 := hy.hcap
  have m4 := hy.hmax
  unfold maxLen at m2 m4
  have HC := (show Hid _ from few14_any W.heap.size 2 (fun j => if j = 0 then la else lb) (W.alloc (.cells #[.int .i64 M, .slice a la ca, .int .i64 K, .slice b lb cb] 25)) (by decide) (fun j hj => by
    have : j = 0 ∨ j = 1 := by omega
    rcases this with rfl | rfl
    · exact ⟨a, ca, by simp, m1, m2⟩
    · exact ⟨b, cb, by simp, m3, m4⟩))
  have HB := (show Hid _ from balloc W (.cells #[.int .i64 M, .slice a la ca, .int .i64 K, .slice b lb cb] 25))
  clear ha hb hx hy m1 m2 m3 m4
  go_wp2_with fail
  refine Calls.mono HC.out ?_
  rintro e wx ⟨z, rfl, rfl⟩
  clear HC a0 a1 b0 b1
  dsimp only
  cases z with
  | true =>
    clear HR
    go_wp2_with fail
    exact HN.out _ _ _ _ _ _ _ HB.out
  | false =>
    clear HN
    go_wp2_with fail
    exact HR.out _ _ _ _ _ _ HB.out

set_option maxRecDepth 100000 in
set_option maxHeartbeats 12800000 in
theorem bp_p3 {x0 x1 x2 x3 x4 x5 x6 x7 x8 x9 x10 x11 x12 x13 x14 x15 x16 x17 x18 x19 x20 x21 x22 x23 x24 x25 x26 x27 x28 x29 x30 x31 x32 x33 x34 x35 x36 x37 x38 x39 x40 x41 x42 x43 x44 x45 x46 x47 x48 x49 x50 x51 x52 x53 x54 x55 x56 x57 x58 x59 x60 x61 x62 x63 x64 x65 x66 x67 x68 x69 x70 x71 x72 x73 x74 x75 x76 x77 x78 x79 x80 x81 x82 x83 x84 x85 x86 x87 x88 x89 x90 x91 x92 x93 x94 x95 : Value} {Q : Exit → Act → World → Prop} {W : World} (OK : OfOk14)
    (hN : ∀ (a : Option Addr) (l c : Nat) (err : Int) (wx : World) (y21 y22 y23 y24 y25 : Value), Below W.heap.size W wx → Q .normal ⟨#[x0, x1, x2, x3, x4, .pointer (some ⟨wx.heap.size, 0, none⟩), .int .i64 err, x7, x8, x9, x10, x11, x12, x13, x14, x15, x16, x17, x18, x19, x20, y21, y22, y23, y24, y25, x26, x27, x28, x29, x30, x31, x32, x33, x34, x35, x36, x37, x38, x39, x40, x41, x42, x43, x44, x45, x46, x47, x48, x49, x50, x51, x52, x53, x54, x55, x56, x57, x58, x59, x60, x61, x62, x63, x64, x65, x66, x67, x68, x69, x70, x71, x72, x73, x74, x75, x76, x77, x78, x79, x80, x81, x82, x83, x84, x85, x86, x87, x88, x89, x90, x91, x92, x93, x94, x95], []⟩ (wx.alloc (.cells #[.int .i64 1, .slice a l c] 25))) :
    Code.wp Try.prog ((Try.f5.body.bind (pcAt 3)).getD .skip) Q ⟨#[x0, x1, x2, x3, x4, x5, x6, x7, x8, x9, x10, x11, x12, x13, x14, x15, x16, x17, x18, x19, x20, x21, x22, x23, x24, x25, x26, x27, x28, x29, x30, x31, x32, x33, x34, x35, x36, x37, x38, x39, x40, x41, x42, x43, x44, x45, x46, x47, x48, x49, x50, x51, x52, x53, x54, x55, x56, x57, x58, x59, x60, x61, x62, x63, x64, x65, x66, x67, x68, x69, x70, x71, x72, x73, x74, x75, x76, x77, x78, x79, x80, x81, x82, x83, x84, x85, x86, x87, x88, x89, x90, x91, x92, x93, x94, x95], []⟩ W := by
  conv => arg 2; whnf
  have HN : Hid (∀ (a : Option Addr) (l c : Nat) (err : Int) (wx : World) (y21 y22 y23 y24 y25 : Value), Below W.heap.size W wx → Q .normal ⟨#[x0, x1, x2, x3, x4, .pointer (some ⟨wx.heap.size, 0, none⟩), .int .i64 err, x7, x8, x9, x10, x11, x12, x13, x14, x15, x16, x17, x18, x19, x20, y21, y22, y23, y24, y25, x26, x27, x28, x29, x30, x31, x32, x33, x34, x35, x36, x37, x38, x39, x40, x41, x42, x43, x44, x45, x46, x47, x48, x49, x50, x51, x52, x53, x54, x55, x56, x57, x58, x59, x60, x61, x62, x63, x64, x65, x66, x67, x68, x69, x70, x71, x72, x73, x74, x75, x76, x77, x78, x79, x80, x81, x82, x83, x84, x85, x86, x87, x88, x89, x90, x91, x92, x93, x94, x95], []⟩ (wx.alloc (.cells #[.int .i64 1, .slice a l c] 25))) := hN
  clear hN
  have hL : Lsts (W.alloc (.cells #[.int .i64 0] 3)) (some ⟨W.heap.size, 0, none⟩) 1 1 [0] := ⟨rfl, Nat.le_refl _, by decide, fun _ => ⟨_, 0, rfl, fun i hi => by
    obtain rfl : i = 0 := by omega
    simp⟩, fun x hx => by simp at hx; omega⟩
  have HC := (show Hid _ from OK 1 (some ⟨W.heap.size, 0, none⟩) 1 1 [0] _ (by decide) hL (by decide))
  have HB := (show Hid _ from balloc W (.cells #[.int .i64 0] 3))
  clear hL
  go_wp2_with fail
  refine Calls.mono HC.out ?_
  rintro e wx ⟨N, a, l, c, us, err, rfl, h1, h2, h3⟩
  have hN := h2.one
  subst hN
  have HT : Hid (Below W.heap.size W wx) := bthen HB.out h3
  clear h1 h2 h3 HC HB
  dsimp only
  go_wp2_with fail
  exact HN.out a l c err wx _ _ _ _ _ HT.out

set_option maxRecDepth 100000 in
set_option maxHeartbeats 12800000 in
theorem bp_p4 {x0 x1 x4 x5 x6 x7 x8 x9 x10 x11 x12 x13 x14 x15 x16 x17 x18 x19 x20 x21 x22 x23 x24 x25 x26 x27 x28 x29 x30 x31 x32 x33 x34 x35 x36 x37 x38 x39 x40 x41 x42 x43 x44 x45 x46 x47 x48 x49 x50 x51 x52 x53 x54 x55 x56 x57 x58 x59 x60 x61 x62 x63 x64 x65 x66 x67 x68 x69 x70 x71 x72 x73 x74 x75 x76 x77 x78 x79 x80 x81 x82 x83 x84 x85 x86 x87 x88 x89 x90 x91 x92 x93 x94 x95 : Value} {Q : Exit → Act → World → Prop} {W : World} {A B : Nat} {M K : Int} {a b : Option Addr} {la ca lb cb : Nat} {ws vs : List Int} (OK : AndOk14) (hM : -9223372036854775808 ≤ M ∧ M < 9223372036854775808) (hK : -9223372036854775808 ≤ K ∧ K < 9223372036854775808) (ha : SetVar W A M a la ca) (hb : SetVar W B K b lb cb) (hx : Nums W a la ca ws) (hy : Nums W b lb cb vs)
    (hN : ∀ (N : Int) (a' : Option Addr) (l' c' : Nat) (us : List Int) (err : Int) (wx : World) (y26 y27 y28 y29 y30 y31 : Value), Nums wx a' l' c' us → ResJoin (fun x y => x && y) M ws K vs N us err → Below W.heap.size W wx → Q .normal ⟨#[x0, x1, .pointer (some ⟨A, 0, none⟩), .pointer (some ⟨B, 0, none⟩), x4, x5, x6, .pointer (some ⟨wx.heap.size, 0, none⟩), .int .i64 err, x9, x10, x11, x12, x13, x14, x15, x16, x17, x18, x19, x20, x21, x22, x23, x24, x25, y26, y27, y28, y29, y30, y31, x32, x33, x34, x35, x36, x37, x38, x39, x40, x41, x42, x43, x44, x45, x46, x47, x48, x49, x50, x51, x52, x53, x54, x55, x56, x57, x58, x59, x60, x61, x62, x63, x64, x65, x66, x67, x68, x69, x70, x71, x72, x73, x74, x75, x76, x77, x78, x79, x80, x81, x82, x83, x84, x85, x86, x87, x88, x89, x90, x91, x92, x93, x94, x95], []⟩ (wx.alloc (.cells #[.int .i64 N, .slice a' l' c'] 25))) :
    Code.wp Try.prog ((Try.f5.body.bind (pcAt 4)).getD .skip) Q ⟨#[x0, x1, .pointer (some ⟨A, 0, none⟩), .pointer (some ⟨B, 0, none⟩), x4, x5, x6, x7, x8, x9, x10, x11, x12, x13, x14, x15, x16, x17, x18, x19, x20, x21, x22, x23, x24, x25, x26, x27, x28, x29, x30, x31, x32, x33, x34, x35, x36, x37, x38, x39, x40, x41, x42, x43, x44, x45, x46, x47, x48, x49, x50, x51, x52, x53, x54, x55, x56, x57, x58, x59, x60, x61, x62, x63, x64, x65, x66, x67, x68, x69, x70, x71, x72, x73, x74, x75, x76, x77, x78, x79, x80, x81, x82, x83, x84, x85, x86, x87, x88, x89, x90, x91, x92, x93, x94, x95], []⟩ W := by
  conv => arg 2; whnf
  have HN : Hid (∀ (N : Int) (a' : Option Addr) (l' c' : Nat) (us : List Int) (err : Int) (wx : World) (y26 y27 y28 y29 y30 y31 : Value), Nums wx a' l' c' us → ResJoin (fun x y => x && y) M ws K vs N us err → Below W.heap.size W wx → Q .normal ⟨#[x0, x1, .pointer (some ⟨A, 0, none⟩), .pointer (some ⟨B, 0, none⟩), x4, x5, x6, .pointer (some ⟨wx.heap.size, 0, none⟩), .int .i64 err, x9, x10, x11, x12, x13, x14, x15, x16, x17, x18, x19, x20, x21, x22, x23, x24, x25, y26, y27, y28, y29, y30, y31, x32, x33, x34, x35, x36, x37, x38, x39, x40, x41, x42, x43, x44, x45, x46, x47, x48, x49, x50, x51, x52, x53, x54, x55, x56, x57, x58, x59, x60, x61, x62, x63, x64, x65, x66, x67, x68, x69, x70, x71, x72, x73, x74, x75, x76, x77, x78, x79, x80, x81, x82, x83, x84, x85, x86, x87, x88, x89, x90, x91, x92, x93, x94, x95], []⟩ (wx.alloc (.cells #[.int .i64 N, .slice a' l' c'] 25))) := hN
  clear hN
  obtain ⟨a0, a1⟩ := ha.cells
  obtain ⟨b0, b1⟩ := hb.cells
  have HC := (show Hid _ from OK M K a b la ca lb cb ws vs W hM hK hx hy)
  clear ha hb hx hy hM hK
  go_wp2_with fail
  refine Calls.mono HC.out ?_
  rintro e wx ⟨N, a', l', c', us, err, rfl, h1, h2, h3⟩
  have HT : Hid (Nums wx a' l' c' us ∧ ResJoin (fun x y => x && y) M ws K vs N us err ∧ Below W.heap.size W wx) := ⟨h1, h2, h3⟩
  clear h1 h2 h3 HC a0 a1 b0 b1
  dsimp only
  go_wp2_with fail
  exact HN.out N a' l' c' us err wx _ _ _ _ _ _ HT.out.1 HT.out.2.1 HT.out.2.2

set_option maxRecDepth 100000 in
set_option maxHeartbeats 12800000 in
theorem bp_p5 {x0 x1 x4 x5 x6 x7 x8 x9 x10 x11 x12 x13 x14 x15 x16 x17 x18 x19 x20 x21 x22 x23 x24 x25 x26 x27 x28 x29 x30 x31 x32 x33 x34 x35 x36 x37 x38 x39 x40 x41 x42 x43 x44 x45 x46 x47 x48 x49 x50 x51 x52 x53 x54 x55 x56 x57 x58 x59 x60 x61 x62 x63 x64 x65 x66 x67 x68 x69 x70 x71 x72 x73 x74 x75 x76 x77 x78 x79 x80 x81 x82 x83 x84 x85 x86 x87 x88 x89 x90 x91 x92 x93 x94 x95 : Value} {Q : Exit → Act → World → Prop} {W : World} {A B : Nat} {M K : Int} {a b : Option Addr} {la ca lb cb : Nat} {ws vs : List Int} (OK : MinOk14) (hM : -9223372036854775808 ≤ M ∧ M < 9223372036854775808) (hK : -9223372036854775808 ≤ K ∧ K < 9223372036854775808) (ha : SetVar W A M a la ca) (hb : SetVar W B K b lb cb) (hx : Nums W a la ca ws) (hy : Nums W b lb cb vs)
    (hN : ∀ (N : Int) (a' : Option Addr) (l' c' : Nat) (us : List Int) (err : Int) (wx : World) (y32 y33 y34 y35 y36 y37 : Value), Nums wx a' l' c' us → ResJoin (fun x y => x && !y) M ws K vs N us err → Below W.heap.size W wx → Q .normal ⟨#[x0, x1, .pointer (some ⟨A, 0, none⟩), .pointer (some ⟨B, 0, none⟩), x4, x5, x6, x7, x8, .pointer (some ⟨wx.heap.size, 0, none⟩), .int .i64 err, x11, x12, x13, x14, x15, x16, x17, x18, x19, x20, x21, x22, x23, x24, x25, x26, x27, x28, x29, x30, x31, y32, y33, y34, y35, y36, y37, x38, x39, x40, x41, x42, x43, x44, x45, x46, x47, x48, x49, x50, x51, x52, x53, x54, x55, x56, x57, x58, x59, x60, x61, x62, x63, x64, x65, x66, x67, x68, x69, x70, x71, x72, x73, x74, x75, x76, x77, x78, x79, x80, x81, x82, x83, x84, x85, x86, x87, x88, x89, x90, x91, x92, x93, x94, x95], []⟩ (wx.alloc (.cells #[.int .i64 N, .slice a' l' c'] 25))) :
    Code.wp Try.prog ((Try.f5.body.bind (pcAt 5)).getD .skip) Q ⟨#[x0, x1, .pointer (some ⟨A, 0, none⟩), .pointer (some ⟨B, 0, none⟩), x4, x5, x6, x7, x8, x9, x10, x11, x12, x13, x14, x15, x16, x17, x18, x19, x20, x21, x22, x23, x24, x25, x26, x27, x28, x29, x30, x31, x32, x33, x34, x35, x36, x37, x38, x39, x40, x41, x42, x43, x44, x45, x46, x47, x48, x49, x50, x51, x52, x53, x54, x55, x56, x57, x58, x59, x60, x61, x62, x63, x64, x65, x66, x67, x68, x69, x70, x71, x72, x73, x74, x75, x76, x77, x78, x79, x80, x81, x82, x83, x84, x85, x86, x87, x88, x89, x90, x91, x92, x93, x94, x95], []⟩ W := by
  conv => arg 2; whnf
  have HN : Hid (∀ (N : Int) (a' : Option Addr) (l' c' : Nat) (us : List Int) (err : Int) (wx : World) (y32 y33 y34 y35 y36 y37 : Value), Nums wx a' l' c' us → ResJoin (fun x y => x && !y) M ws K vs N us err → Below W.heap.size W wx → Q .normal ⟨#[x0, x1, .pointer (some ⟨A, 0, none⟩), .pointer (some ⟨B, 0, none⟩), x4, x5, x6, x7, x8, .pointer (some ⟨wx.heap.size, 0, none⟩), .int .i64 err, x11, x12, x13, x14, x15, x16, x17, x18, x19, x20, x21, x22, x23, x24, x25, x26, x27, x28, x29, x30, x31, y32, y33, y34, y35, y36, y37, x38, x39, x40, x41, x42, x43, x44, x45, x46, x47, x48, x49, x50, x51, x52, x53, x54, x55, x56, x57, x58, x59, x60, x61, x62, x63, x64, x65, x66, x67, x68, x69, x70, x71, x72, x73, x74, x75, x76, x77, x78, x79, x80, x81, x82, x83, x84, x85, x86, x87, x88, x89, x90, x91, x92, x93, x94, x95], []⟩ (wx.alloc (.cells #[.int .i64 N, .slice a' l' c'] 25))) := hN
  clear hN
  obtain ⟨a0, a1⟩ := ha.cells
  obtain ⟨b0, b1⟩ := hb.cells
  have HC := (show Hid _ from OK M K a b la ca lb cb ws vs W hM hK hx hy)
  clear ha hb hx hy hM hK
  go_wp2_with fail
  refine Calls.mono HC.out ?_
  rintro e wx ⟨N, a', l', c', us, err, rfl, h1, h2, h3⟩
  have HT : Hid (Nums wx a' l' c' us ∧ ResJoin (fun x y => x && !y) M ws K vs N us err ∧ Below W.heap.size W wx) := ⟨h1, h2, h3⟩
  clear h1 h2 h3 HC a0 a1 b0 b1
  dsimp only
  go_wp2_with fail
  exact HN.out N a' l' c' us err wx _ _ _ _ _ _ HT.out.1 HT.out.2.1 HT.out.2.2

set_option maxRecDepth 100000 in
set_option maxHeartbeats 12800000 in
theorem bp_p6 {x0 x1 x2 x3 x4 x6 x7 x9 x11 x12 x13 x14 x15 x16 x17 x18 x19 x20 x21 x22 x23 x24 x25 x26 x27 x28 x29 x30 x31 x32 x33 x34 x35 x36 x37 x38 x39 x40 x41 x42 x43 x44 x45 x46 x47 x48 x49 x50 x51 x52 x53 x54 x55 x56 x57 x58 x59 x60 x61 x62 x63 x64 x65 x66 x67 x68 x69 x70 x71 x72 x73 x74 x75 x76 x77 x78 x79 x80 x81 x82 x83 x84 x85 x86 x87 x88 x89 x90 x91 x92 x93 x94 x95 : Value} {Q : Exit → Act → World → Prop} {W : World} {u : Nat} {e f : Int} (cu : W.cell? ⟨u, 0, none⟩ = some (.int .i64 1)) (h : (e = 0 ∧ f = 0) ∨ (e = 1 ∧ f = 1))
    (hN : ∀ (y4 y38 y39 y40 y41 y42 y43 y44 y45 y46 y47 y48 y49 y50 y51 y52 y53 y54 y55 y56 : Value), e = 0 → f = 0 → Q .normal ⟨#[x0, x1, x2, x3, y4, .pointer (some ⟨u, 0, none⟩), x6, x7, .int .i64 e, x9, .int .i64 f, x11, x12, x13, x14, x15, x16, x17, x18, x19, x20, x21, x22, x23, x24, x25, x26, x27, x28, x29, x30, x31, x32, x33, x34, x35, x36, x37, y38, y39, y40, y41, y42, y43, y44, y45, y46, y47, y48, y49, y50, y51, y52, y53, y54, y55, y56, x57, x58, x59, x60, x61, x62, x63, x64, x65, x66, x67, x68, x69, x70, x71, x72, x73, x74, x75, x76, x77, x78, x79, x80, x81, x82, x83, x84, x85, x86, x87, x88, x89, x90, x91, x92, x93, x94, x95], []⟩ W)
    (hR : ∀ (y38 y39 y40 y41 y42 y43 y44 y45 y46 y47 y48 y49 y50 y51 y52 y53 y54 y55 y56 : Value), Q .ret ⟨#[x0, x1, x2, x3, .bool true, .pointer (some ⟨u, 0, none⟩), x6, x7, .int .i64 e, x9, .int .i64 f, x11, x12, x13, x14, x15, x16, x17, x18, x19, x20, x21, x22, x23, x24, x25, x26, x27, x28, x29, x30, x31, x32, x33, x34, x35, x36, x37, y38, y39, y40, y41, y42, y43, y44, y45, y46, y47, y48, y49, y50, y51, y52, y53, y54, y55, y56, x57, x58, x59, x60, x61, x62, x63, x64, x65, x66, x67, x68, x69, x70, x71, x72, x73, x74, x75, x76, x77, x78, x79, x80, x81, x82, x83, x84, x85, x86, x87, x88, x89, x90, x91, x92, x93, x94, x95], []⟩ W) :
    Code.wp Try.prog ((Try.f5.body.bind (pcAt 6)).getD .skip) Q ⟨#[x0, x1, x2, x3, x4, .pointer (some ⟨u, 0, none⟩), x6, x7, .int .i64 e, x9, .int .i64 f, x11, x12, x13, x14, x15, x16, x17, x18, x19, x20, x21, x22, x23, x24, x25, x26, x27, x28, x29, x30, x31, x32, x33, x34, x35, x36, x37, x38, x39, x40, x41, x42, x43, x44, x45, x46, x47, x48, x49, x50, x51, x52, x53, x54, x55, x56, x57, x58, x59, x60, x61, x62, x63, x64, x65, x66, x67, x68, x69, x70, x71, x72, x73, x74, x75, x76, x77, x78, x79, x80, x81, x82, x83, x84, x85, x86, x87, x88, x89, x90, x91, x92, x93, x94, x95], []⟩ W := by
  conv => arg 2; whnf
  have HN : Hid (∀ (y4 y38 y39 y40 y41 y42 y43 y44 y45 y46 y47 y48 y49 y50 y51 y52 y53 y54 y55 y56 : Value), e = 0 → f = 0 → Q .normal ⟨#[x0, x1, x2, x3, y4, .pointer (some ⟨u, 0, none⟩), x6, x7, .int .i64 e, x9, .int .i64 f, x11, x12, x13, x14, x15, x16, x17, x18, x19, x20, x21, x22, x23, x24, x25, x26, x27, x28, x29, x30, x31, x32, x33, x34, x35, x36, x37, y38, y39, y40, y41, y42, y43, y44, y45, y46, y47, y48, y49, y50, y51, y52, y53, y54, y55, y56, x57, x58, x59, x60, x61, x62, x63, x64, x65, x66, x67, x68, x69, x70, x71, x72, x73, x74, x75, x76, x77, x78, x79, x80, x81, x82, x83, x84, x85, x86, x87, x88, x89, x90, x91, x92, x93, x94, x95], []⟩ W) := hN
  have HR : Hid (∀ (y38 y39 y40 y41 y42 y43 y44 y45 y46 y47 y48 y49 y50 y51 y52 y53 y54 y55 y56 : Value), Q .ret ⟨#[x0, x1, x2, x3, .bool true, .pointer (some ⟨u, 0, none⟩), x6, x7, .int .i64 e, x9, .int .i64 f, x11, x12, x13, x14, x15, x16, x17, x18, x19, x20, x21, x22, x23, x24, x25, x26, x27, x28, x29, x30, x31, x32, x33, x34, x35, x36, x37, y38, y39, y40, y41, y42, y43, y44, y45, y46, y47, y48, y49, y50, y51, y52, y53, y54, y55, y56, x57, x58, x59, x60, x61, x62, x63, x64, x65, x66, x67, x68, x69, x70, x71, x72, x73, x74, x75, x76, x77, x78, x79, x80, x81, x82, x83, x84, x85, x86, x87, x88, x89, x90, x91, x92, x93, x94, x95], []⟩ W) := hR
  clear hN hR
  rcases h with ⟨rfl, rfl⟩ | ⟨rfl, rfl⟩
  · clear HR
    go_wp2_with fail
    exact HN.out  _ _ _ _ _ _ _ _ _ _ _ _ _ _ _ _ _ _ _ _ (by trivial) (by trivial)
  · clear HN
    go_wp2_with fail
    exact HR.out  _ _ _ _ _ _ _ _ _ _ _ _ _ _ _ _ _ _ _ 

set_option maxRecDepth 100000 in
set_option maxHeartbeats 12800000 in
theorem bp_p8 {x0 x1 x2 x3 x4 x5 x6 x8 x10 x11 x12 x13 x14 x15 x16 x17 x18 x19 x20 x21 x22 x23 x24 x25 x26 x27 x28 x29 x30 x31 x32 x33 x34 x35 x36 x37 x38 x39 x40 x41 x42 x43 x44 x45 x46 x47 x48 x49 x50 x51 x52 x53 x54 x55 x56 x57 x58 x59 x60 x61 x62 x63 x64 x65 x66 x67 x68 x69 x70 x71 x72 x73 x74 x75 x76 x77 x78 x79 x80 x81 x82 x83 x84 x85 x86 x87 x88 x89 x90 x91 x92 x93 x94 x95 : Value} {Q : Exit → Act → World → Prop} {W : World} {A B : Nat} {M K : Int} {a b : Option Addr} {la ca lb cb : Nat} {ws vs : List Int} (OK : AndOk14) (hM : -9223372036854775808 ≤ M ∧ M < 9223372036854775808) (hK : -9223372036854775808 ≤ K ∧ K < 9223372036854775808) (ha : SetVar W A M a la ca) (hb : SetVar W B K b lb cb) (hx : Nums W a la ca ws) (hy : Nums W b lb cb vs)
    (hN : ∀ (N : Int) (a' : Option Addr) (l' c' : Nat) (us : List Int) (err : Int) (wx : World) (y57 y58 y59 y60 y61 y62 : Value), Nums wx a' l' c' us → ResJoin (fun x y => x && y) M ws K vs N us err → Below W.heap.size W wx → Q .normal ⟨#[x0, x1, x2, x3, x4, x5, x6, .pointer (some ⟨A, 0, none⟩), x8, .pointer (some ⟨B, 0, none⟩), x10, .pointer (some ⟨wx.heap.size, 0, none⟩), .int .i64 err, x13, x14, x15, x16, x17, x18, x19, x20, x21, x22, x23, x24, x25, x26, x27, x28, x29, x30, x31, x32, x33, x34, x35, x36, x37, x38, x39, x40, x41, x42, x43, x44, x45, x46, x47, x48, x49, x50, x51, x52, x53, x54, x55, x56, y57, y58, y59, y60, y61, y62, x63, x64, x65, x66, x67, x68, x69, x70, x71, x72, x73, x74, x75, x76, x77, x78, x79, x80, x81, x82, x83, x84, x85, x86, x87, x88, x89, x90, x91, x92, x93, x94, x95], []⟩ (wx.alloc (.cells #[.int .i64 N, .slice a' l' c'] 25))) :
    Code.wp Try.prog ((Try.f5.body.bind (pcAt 8)).getD .skip) Q ⟨#[x0, x1, x2, x3, x4, x5, x6, .pointer (some ⟨A, 0, none⟩), x8, .pointer (some ⟨B, 0, none⟩), x10, x11, x12, x13, x14, x15, x16, x17, x18, x19, x20, x21, x22, x23, x24, x25, x26, x27, x28, x29, x30, x31, x32, x33, x34, x35, x36, x37, x38, x39, x40, x41, x42, x43, x44, x45, x46, x47, x48, x49, x50, x51, x52, x53, x54, x55, x56, x57, x58, x59, x60, x61, x62, x63, x64, x65, x66, x67, x68, x69, x70, x71, x72, x73, x74, x75, x76, x77, x78, x79, x80, x81, x82, x83, x84, x85, x86, x87, x88, x89, x90, x91, x92, x93, x94, x95], []⟩ W := by
  conv => arg 2; whnf
  have HN : Hid (∀ (N : Int) (a' : Option Addr) (l' c' : Nat) (us : List Int) (err : Int) (wx : World) (y57 y58 y59 y60 y61 y62 : Value), Nums wx a' l' c' us → ResJoin (fun x y => x && y) M ws K vs N us err → Below W.heap.size W wx → Q .normal ⟨#[x0, x1, x2, x3, x4, x5, x6, .pointer (some ⟨A, 0, none⟩), x8, .pointer (some ⟨B, 0, none⟩), x10, .pointer (some ⟨wx.heap.size, 0, none⟩), .int .i64 err, x13, x14, x15, x16, x17, x18, x19, x20, x21, x22, x23, x24, x25, x26, x27, x28, x29, x30, x31, x32, x33, x34, x35, x36, x37, x38, x39, x40, x41, x42, x43, x44, x45, x46, x47, x48, x49, x50, x51, x52, x53, x54, x55, x56, y57, y58, y59, y60, y61, y62, x63, x64, x65, x66, x67, x68, x69, x70, x71, x72, x73, x74, x75, x76, x77, x78, x79, x80, x81, x82, x83, x84, x85, x86, x87, x88, x89, x90, x91, x92, x93, x94, x95], []⟩ (wx.alloc (.cells #[.int .i64 N, .slice a' l' c'] 25))) := hN
  clear hN
  obtain ⟨a0, a1⟩ := ha.cells
  obtain ⟨b0, b1⟩ := hb.cells
  have HC := (show Hid _ from OK M K a b la ca lb cb ws vs W hM hK hx hy)
  clear ha hb hx hy hM hK
  go_wp2_with fail
  refine Calls.mono HC.out ?_
  rintro e wx ⟨N, a', l', c', us, err, rfl, h1, h2, h3⟩
  have HT : Hid (Nums wx a' l' c' us ∧ ResJoin (fun x y => x && y) M ws K vs N us err ∧ Below W.heap.size W wx) := ⟨h1, h2, h3⟩
  clear h1 h2 h3 HC a0 a1 b0 b1
  dsimp only
  go_wp2_with fail
  exact HN.out N a' l' c' us err wx _ _ _ _ _ _ HT.out.1 HT.out.2.1 HT.out.2.2

set_option maxRecDepth 100000 in
set_option maxHeartbeats 12800000 in
theorem bp_p9 {x0 x1 x2 x3 x4 x5 x6 x8 x10 x11 x12 x13 x14 x15 x16 x17 x18 x19 x20 x21 x22 x23 x24 x25 x26 x27 x28 x29 x30 x31 x32 x33 x34 x35 x36 x37 x38 x39 x40 x41 x42 x43 x44 x45 x46 x47 x48 x49 x50 x51 x52 x53 x54 x55 x56 x57 x58 x59 x60 x61 x62 x63 x64 x65 x66 x67 x68 x69 x70 x71 x72 x73 x74 x75 x76 x77 x78 x79 x80 x81 x82 x83 x84 x85 x86 x87 x88 x89 x90 x91 x92 x93 x94 x95 : Value} {Q : Exit → Act → World → Prop} {W : World} {A B : Nat} {M K : Int} {a b : Option Addr} {la ca lb cb : Nat} {ws vs : List Int} (OK : OrOk14) (hM : -9223372036854775808 ≤ M ∧ M < 9223372036854775808) (hK : -9223372036854775808 ≤ K ∧ K < 9223372036854775808) (ha : SetVar W A M a la ca) (hb : SetVar W B K b lb cb) (hx : Nums W a la ca ws) (hy : Nums W b lb cb vs)
    (hN : ∀ (N : Int) (a' : Option Addr) (l' c' : Nat) (us : List Int) (err : Int) (wx : World) (y63 y64 y65 y66 y67 y68 : Value), Nums wx a' l' c' us → ResJoin (fun x y => x || y) M ws K vs N us err → Below W.heap.size W wx → Q .normal ⟨#[x0, x1, x2, x3, x4, x5, x6, .pointer (some ⟨A, 0, none⟩), x8, .pointer (some ⟨B, 0, none⟩), x10, x11, x12, .pointer (some ⟨wx.heap.size, 0, none⟩), .int .i64 err, x15, x16, x17, x18, x19, x20, x21, x22, x23, x24, x25, x26, x27, x28, x29, x30, x31, x32, x33, x34, x35, x36, x37, x38, x39, x40, x41, x42, x43, x44, x45, x46, x47, x48, x49, x50, x51, x52, x53, x54, x55, x56, x57, x58, x59, x60, x61, x62, y63, y64, y65, y66, y67, y68, x69, x70, x71, x72, x73, x74, x75, x76, x77, x78, x79, x80, x81, x82, x83, x84, x85, x86, x87, x88, x89, x90, x91, x92, x93, x94, x95], []⟩ (wx.alloc (.cells #[.int .i64 N, .slice a' l' c'] 25))) :
    Code.wp Try.prog ((Try.f5.body.bind (pcAt 9)).getD .skip) Q ⟨#[x0, x1, x2, x3, x4, x5, x6, .pointer (some ⟨A, 0, none⟩), x8, .pointer (some ⟨B, 0, none⟩), x10, x11, x12, x13, x14, x15, x16, x17, x18, x19, x20, x21, x22, x23, x24, x25, x26, x27, x28, x29, x30, x31, x32, x33, x34, x35, x36, x37, x38, x39, x40, x41, x42, x43, x44, x45, x46, x47, x48, x49, x50, x51, x52, x53, x54, x55, x56, x57, x58, x59, x60, x61, x62, x63, x64, x65, x66, x67, x68, x69, x70, x71, x72, x73, x74, x75, x76, x77, x78, x79, x80, x81, x82, x83, x84, x85, x86, x87, x88, x89, x90, x91, x92, x93, x94, x95], []⟩ W := by
  conv => arg 2; whnf
  have HN : Hid (∀ (N : Int) (a' : Option Addr) (l' c' : Nat) (us : List Int) (err : Int) (wx : World) (y63 y64 y65 y66 y67 y68 : Value), Nums wx a' l' c' us → ResJoin (fun x y => x || y) M ws K vs N us err → Below W.heap.size W wx → Q .normal ⟨#[x0, x1, x2, x3, x4, x5, x6, .pointer (some ⟨A, 0, none⟩), x8, .pointer (some ⟨B, 0, none⟩), x10, x11, x12, .pointer (some ⟨wx.heap.size, 0, none⟩), .int .i64 err, x15, x16, x17, x18, x19, x20, x21, x22, x23, x24, x25, x26, x27, x28, x29, x30, x31, x32, x33, x34, x35, x36, x37, x38, x39, x40, x41, x42, x43, x44, x45, x46, x47, x48, x49, x50, x51, x52, x53, x54, x55, x56, x57, x58, x59, x60, x61, x62, y63, y64, y65, y66, y67, y68, x69, x70, x71, x72, x73, x74, x75, x76, x77, x78, x79, x80, x81, x82, x83, x84, x85, x86, x87, x88, x89, x90, x91, x92, x93, x94, x95], []⟩ (wx.alloc (.cells #[.int .i64 N, .slice a' l' c'] 25))) := hN
  clear hN
  obtain ⟨a0, a1⟩ := ha.cells
  obtain ⟨b0, b1⟩ := hb.cells
  have HC := (show Hid _ from OK M K a b la ca lb cb ws vs W hM hK hx hy)
  clear ha hb hx hy hM hK
  go_wp2_with fail
  refine Calls.mono HC.out ?_
  rintro e wx ⟨N, a', l', c', us, err, rfl, h1, h2, h3⟩
  have HT : Hid (Nums wx a' l' c' us ∧ ResJoin (fun x y => x || y) M ws K vs N us err ∧ Below W.heap.size W wx) := ⟨h1, h2, h3⟩
  clear h1 h2 h3 HC a0 a1 b0 b1
  dsimp only
  go_wp2_with fail
  exact HN.out N a' l' c' us err wx _ _ _ _ _ _ HT.out.1 HT.out.2.1 HT.out.2.2

set_option maxRecDepth 100000 in
set_option maxHeartbeats 12800000 in
theorem bp_p10 {x0 x1 x3 x4 x5 x6 x7 x8 x9 x10 x11 x12 x14 x15 x16 x17 x18 x19 x20 x21 x22 x23 x24 x25 x26 x27 x28 x29 x30 x31 x32 x33 x34 x35 x36 x37 x38 x39 x40 x41 x42 x43 x44 x45 x46 x47 x48 x49 x50 x51 x52 x53 x54 x55 x56 x57 x58 x59 x60 x61 x62 x63 x64 x65 x66 x67 x68 x69 x70 x71 x72 x73 x74 x75 x76 x77 x78 x79 x80 x81 x82 x83 x84 x85 x86 x87 x88 x89 x90 x91 x92 x93 x94 x95 : Value} {Q : Exit → Act → World → Prop} {W : World} {g h : Nat} {N : Int} {a b : Option Addr} {la ca lb cb : Nat} {ws : List Int} (X0 : W.cell? ⟨g, 0, none⟩ = some (.int .i64 N)) (X1 : W.cell? ⟨g, 1, none⟩ = some (.slice a la ca)) (Y0 : W.cell? ⟨h, 0, none⟩ = some (.int .i64 N)) (Y1 : W.cell? ⟨h, 1, none⟩ = some (.slice b lb cb)) (hx : Nums W a la ca ws) (hy : Nums W b lb cb ws)
    (hN : ∀ (wx : World) (y69 y70 y71 : Value), Below W.heap.size W wx → Q .normal ⟨#[x0, x1, .pointer (some ⟨h, 0, none⟩), x3, x4, x5, x6, x7, x8, x9, x10, x11, x12, .pointer (some ⟨g, 0, none⟩), x14, .bool true, x16, x17, x18, x19, x20, x21, x22, x23, x24, x25, x26, x27, x28, x29, x30, x31, x32, x33, x34, x35, x36, x37, x38, x39, x40, x41, x42, x43, x44, x45, x46, x47, x48, x49, x50, x51, x52, x53, x54, x55, x56, x57, x58, x59, x60, x61, x62, x63, x64, x65, x66, x67, x68, y69, y70, y71, x72, x73, x74, x75, x76, x77, x78, x79, x80, x81, x82, x83, x84, x85, x86, x87, x88, x89, x90, x91, x92, x93, x94, x95], []⟩ wx) :
    Code.wp Try.prog ((Try.f5.body.bind (pcAt 10)).getD .skip) Q ⟨#[x0, x1, .pointer (some ⟨h, 0, none⟩), x3, x4, x5, x6, x7, x8, x9, x10, x11, x12, .pointer (some ⟨g, 0, none⟩), x14, x15, x16, x17, x18, x19, x20, x21, x22, x23, x24, x25, x26, x27, x28, x29, x30, x31, x32, x33, x34, x35, x36, x37, x38, x39, x40, x41, x42, x43, x44, x45, x46, x47, x48, x49, x50, x51, x52, x53, x54, x55, x56, x57, x58, x59, x60, x61, x62, x63, x64, x65, x66, x67, x68, x69, x70, x71, x72, x73, x74, x75, x76, x77, x78, x79, x80, x81, x82, x83, x84, x85, x86, x87, x88, x89, x90, x91, x92, x93, x94, x95], []⟩ W := by
  conv => arg 2; whnf
  have HN : Hid (∀ (wx : World) (y69 y70 y71 : Value), Below W.heap.size W wx → Q .normal ⟨#[x0, x1, .pointer (some ⟨h, 0, none⟩), x3, x4, x5, x6, x7, x8, x9, x10, x11, x12, .pointer (some ⟨g, 0, none⟩), x14, .bool true, x16, x17, x18, x19, x20, x21, x22, x23, x24, x25, x26, x27, x28, x29, x30, x31, x32, x33, x34, x35, x36, x37, x38, x39, x40, x41, x42, x43, x44, x45, x46, x47, x48, x49, x50, x51, x52, x53, x54, x55, x56, x57, x58, x59, x60, x61, x62, x63, x64, x65, x66, x67, x68, y69, y70, y71, x72, x73, x74, x75, x76, x77, x78, x79, x80, x81, x82, x83, x84, x85, x86, x87, x88, x89, x90, x91, x92, x93, x94, x95], []⟩ wx) := hN
  clear hN
  have HC : Hid (Calls Try.prog 8 #[.agg #[.int .i64 N, .slice a la ca], .agg #[.int .i64 N, .slice b lb cb]] W fun e w' => e = .returned (.bool true) ∧ Below W.heap.size W w') := (r14same_any N N a b la ca lb cb ws ws W hx hy).mono fun e w' q => ⟨by rw [q.1]; simp, q.2⟩
  clear hx hy
  go_wp2_with fail
  refine Calls.mono HC.out ?_
  rintro e wx ⟨rfl, h1⟩
  have HT : Hid (Below W.heap.size W wx) := h1
  clear h1 HC X0 X1 Y0 Y1
  dsimp only
  go_wp2_with fail
  exact HN.out wx _ _ _ HT.out

end Go.Proofs.Ytfgccldkbolkoaa

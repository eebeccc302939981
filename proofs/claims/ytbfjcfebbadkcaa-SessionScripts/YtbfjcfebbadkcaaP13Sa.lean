/-
  SessionScripts: its statements. Written by mk/p13laws.py.
-/
import Derived.Test.YtbfjcfebbadkcaaP13Do
import Derived.Test.YtbfjcfebbadkcaaP13Open
import Derived.Test.YtbfjcfebbadkcaaPieces
namespace Go.Proofs.Ytbfjcfebbadkcaa
open Go.RowKit

set_option maxRecDepth 100000 in
set_option maxHeartbeats 12800000 in
theorem ss_p0 {x1 x2 x3 x4 x5 x6 x7 x8 x9 x10 x11 x12 x13 x14 x15 x16 x17 x18 x19 x20 x21 x22 x23 x24 x25 x26 x27 x28 x29 x30 x31 x32 x33 x34 x35 x36 x37 x38 x39 x40 x41 x42 x43 x44 x45 x46 x47 x48 x49 x50 x51 x52 x53 x54 x55 x56 x57 x58 x59 x60 x61 x62 x63 x64 x65 x66 x67 x68 x69 x70 x71 x72 x73 x74 x75 x76 x77 x78 x79 x80 x81 x82 x83 x84 x85 x86 x87 x88 x89 x90 x91 x92 x93 x94 x95 x96 x97 x98 x99 x100 x101 x102 x103 x104 x105 x106 x107 x108 x109 : Value} {Q : Exit → Act → World → Prop} {W : World} {l0 l1 l2 : Int} 
    (hN : Q .normal ⟨#[.agg #[.int .i64 l0, .int .i64 l1, .int .i64 l2], x1, .pointer (some ⟨W.heap.size, 0, none⟩), x3, .bool false, x5, x6, x7, x8, x9, x10, x11, x12, x13, x14, x15, x16, x17, x18, x19, x20, x21, x22, x23, x24, x25, x26, x27, x28, x29, x30, x31, x32, x33, x34, x35, x36, x37, x38, x39, x40, x41, x42, x43, x44, x45, x46, x47, x48, x49, x50, x51, x52, x53, x54, x55, x56, x57, x58, x59, x60, x61, x62, x63, x64, x65, x66, x67, x68, x69, x70, x71, x72, x73, x74, x75, x76, x77, x78, x79, x80, x81, x82, x83, x84, x85, x86, x87, x88, x89, x90, x91, x92, x93, x94, x95, x96, x97, x98, x99, x100, x101, x102, x103, x104, x105, x106, x107, x108, x109], []⟩ (W.alloc (.cells #[.int .i64 l0, .int .i64 l1, .int .i64 l2] 22))) :
    Code.wp Try.prog ((Try.f3.body.bind (pcAt 0)).getD .skip) Q ⟨#[.agg #[.int .i64 l0, .int .i64 l1, .int .i64 l2], x1, x2, x3, x4, x5, x6, x7, x8, x9, x10, x11, x12, x13, x14, x15, x16, x17, x18, x19, x20, x21, x22, x23, x24, x25, x26, x27, x28, x29, x30, x31, x32, x33, x34, x35, x36, x37, x38, x39, x40, x41, x42, x43, x44, x45, x46, x47, x48, x49, x50, x51, x52, x53, x54, x55, x56, x57, x58, x59, x60, x61, x62, x63, x64, x65, x66, x67, x68, x69, x70, x71, x72, x73, x74, x75, x76, x77, x78, x79, x80, x81, x82, x83, x84, x85, x86, x87, x88, x89, x90, x91, x92, x93, x94, x95, x96, x97, x98, x99, x100, x101, x102, x103, x104, x105, x106, x107, x108, x109], []⟩ W := by
  conv => arg 2; whnf
  have HN : Hid (Q .normal ⟨#[.agg #[.int .i64 l0, .int .i64 l1, .int .i64 l2], x1, .pointer (some ⟨W.heap.size, 0, none⟩), x3, .bool false, x5, x6, x7, x8, x9, x10, x11, x12, x13, x14, x15, x16, x17, x18, x19, x20, x21, x22, x23, x24, x25, x26, x27, x28, x29, x30, x31, x32, x33, x34, x35, x36, x37, x38, x39, x40, x41, x42, x43, x44, x45, x46, x47, x48, x49, x50, x51, x52, x53, x54, x55, x56, x57, x58, x59, x60, x61, x62, x63, x64, x65, x66, x67, x68, x69, x70, x71, x72, x73, x74, x75, x76, x77, x78, x79, x80, x81, x82, x83, x84, x85, x86, x87, x88, x89, x90, x91, x92, x93, x94, x95, x96, x97, x98, x99, x100, x101, x102, x103, x104, x105, x106, x107, x108, x109], []⟩ (W.alloc (.cells #[.int .i64 l0, .int .i64 l1, .int .i64 l2] 22))) := hN
  clear hN
  go_wp2_with fail
  exact HN.out   

set_option maxRecDepth 100000 in
set_option maxHeartbeats 12800000 in
theorem ss_p1 {x0 x1 x3 x4 x5 x6 x7 x8 x9 x10 x11 x12 x13 x14 x15 x16 x17 x18 x19 x20 x21 x22 x23 x24 x25 x26 x27 x28 x29 x30 x31 x32 x33 x34 x35 x36 x37 x38 x39 x40 x41 x42 x43 x44 x45 x46 x47 x48 x49 x50 x51 x52 x53 x54 x55 x56 x57 x58 x59 x60 x61 x62 x63 x64 x65 x66 x67 x68 x69 x70 x71 x72 x73 x74 x75 x76 x77 x78 x79 x80 x81 x82 x83 x84 x85 x86 x87 x88 x89 x90 x91 x92 x93 x94 x95 x96 x97 x98 x99 x100 x101 x102 x103 x104 x105 x106 x107 x108 x109 : Value} {Q : Exit → Act → World → Prop} {At : World → Nat → SS → (Nat → Prop) → Prop} {W : World} {G : Nat} {l0 l1 l2 : Int} (A : SesOk13 ⟨6, 15, 17, 19, 21, 14, 9, 11⟩ At) (h0 : (-9223372036854775808 ≤ l0 ∧ l0 < 9223372036854775808)) (h1 : (-9223372036854775808 ≤ l1 ∧ l1 < 9223372036854775808)) (h2 : (-9223372036854775808 ≤ l2 ∧ l2 < 9223372036854775808)) (e0 : W.cell? ⟨G, 0, none⟩ = some (.int .i64 l0)) (e1 : W.cell? ⟨G, 1, none⟩ = some (.int .i64 l1)) (e2 : W.cell? ⟨G, 2, none⟩ = some (.int .i64 l2))
    (hB : ∀ (wx : World) (y19 y20 y21 y22 y23 y24 y25 y26 y27 y28 : Value), newOk l0 l1 l2 = false → Below W.heap.size W wx → Q .normal ⟨#[x0, x1, .pointer (some ⟨G, 0, none⟩), x3, x4, .pointer none, .int .i64 1, x7, x8, x9, x10, x11, x12, x13, x14, x15, x16, x17, x18, y19, y20, y21, y22, y23, y24, y25, y26, y27, y28, x29, x30, x31, x32, x33, x34, x35, x36, x37, x38, x39, x40, x41, x42, x43, x44, x45, x46, x47, x48, x49, x50, x51, x52, x53, x54, x55, x56, x57, x58, x59, x60, x61, x62, x63, x64, x65, x66, x67, x68, x69, x70, x71, x72, x73, x74, x75, x76, x77, x78, x79, x80, x81, x82, x83, x84, x85, x86, x87, x88, x89, x90, x91, x92, x93, x94, x95, x96, x97, x98, x99, x100, x101, x102, x103, x104, x105, x106, x107, x108, x109], []⟩ wx)
    (hG : ∀ (g : Nat) (T : Nat → Prop) (wx : World) (y19 y20 y21 y22 y23 y24 y25 y26 y27 y28 : Value), newOk l0 l1 l2 = true → At wx g (SS.new l0.toNat l1.toNat l2.toNat) T → Below W.heap.size W wx → (∀ b, T b → W.heap.size ≤ b) → Q .normal ⟨#[x0, x1, .pointer (some ⟨G, 0, none⟩), x3, x4, .pointer (some ⟨g, 0, none⟩), .int .i64 0, x7, x8, x9, x10, x11, x12, x13, x14, x15, x16, x17, x18, y19, y20, y21, y22, y23, y24, y25, y26, y27, y28, x29, x30, x31, x32, x33, x34, x35, x36, x37, x38, x39, x40, x41, x42, x43, x44, x45, x46, x47, x48, x49, x50, x51, x52, x53, x54, x55, x56, x57, x58, x59, x60, x61, x62, x63, x64, x65, x66, x67, x68, x69, x70, x71, x72, x73, x74, x75, x76, x77, x78, x79, x80, x81, x82, x83, x84, x85, x86, x87, x88, x89, x90, x91, x92, x93, x94, x95, x96, x97, x98, x99, x100, x101, x102, x103, x104, x105, x106, x107, x108, x109], []⟩ wx) :
    Code.wp Try.prog ((Try.f3.body.bind (pcAt 1)).getD .skip) Q ⟨#[x0, x1, .pointer (some ⟨G, 0, none⟩), x3, x4, x5, x6, x7, x8, x9, x10, x11, x12, x13, x14, x15, x16, x17, x18, x19, x20, x21, x22, x23, x24, x25, x26, x27, x28, x29, x30, x31, x32, x33, x34, x35, x36, x37, x38, x39, x40, x41, x42, x43, x44, x45, x46, x47, x48, x49, x50, x51, x52, x53, x54, x55, x56, x57, x58, x59, x60, x61, x62, x63, x64, x65, x66, x67, x68, x69, x70, x71, x72, x73, x74, x75, x76, x77, x78, x79, x80, x81, x82, x83, x84, x85, x86, x87, x88, x89, x90, x91, x92, x93, x94, x95, x96, x97, x98, x99, x100, x101, x102, x103, x104, x105, x106, x107, x108, x109], []⟩ W := by
  conv => arg 2; whnf
  have HB : Hid (∀ (wx : World) (y19 y20 y21 y22 y23 y24 y25 y26 y27 y28 : Value), newOk l0 l1 l2 = false → Below W.heap.size W wx → Q .normal ⟨#[x0, x1, .pointer (some ⟨G, 0, none⟩), x3, x4, .pointer none, .int .i64 1, x7, x8, x9, x10, x11, x12, x13, x14, x15, x16, x17, x18, y19, y20, y21, y22, y23, y24, y25, y26, y27, y28, x29, x30, x31, x32, x33, x34, x35, x36, x37, x38, x39, x40, x41, x42, x43, x44, x45, x46, x47, x48, x49, x50, x51, x52, x53, x54, x55, x56, x57, x58, x59, x60, x61, x62, x63, x64, x65, x66, x67, x68, x69, x70, x71, x72, x73, x74, x75, x76, x77, x78, x79, x80, x81, x82, x83, x84, x85, x86, x87, x88, x89, x90, x91, x92, x93, x94, x95, x96, x97, x98, x99, x100, x101, x102, x103, x104, x105, x106, x107, x108, x109], []⟩ wx) := hB
  have HG : Hid (∀ (g : Nat) (T : Nat → Prop) (wx : World) (y19 y20 y21 y22 y23 y24 y25 y26 y27 y28 : Value), newOk l0 l1 l2 = true → At wx g (SS.new l0.toNat l1.toNat l2.toNat) T → Below W.heap.size W wx → (∀ b, T b → W.heap.size ≤ b) → Q .normal ⟨#[x0, x1, .pointer (some ⟨G, 0, none⟩), x3, x4, .pointer (some ⟨g, 0, none⟩), .int .i64 0, x7, x8, x9, x10, x11, x12, x13, x14, x15, x16, x17, x18, y19, y20, y21, y22, y23, y24, y25, y26, y27, y28, x29, x30, x31, x32, x33, x34, x35, x36, x37, x38, x39, x40, x41, x42, x43, x44, x45, x46, x47, x48, x49, x50, x51, x52, x53, x54, x55, x56, x57, x58, x59, x60, x61, x62, x63, x64, x65, x66, x67, x68, x69, x70, x71, x72, x73, x74, x75, x76, x77, x78, x79, x80, x81, x82, x83, x84, x85, x86, x87, x88, x89, x90, x91, x92, x93, x94, x95, x96, x97, x98, x99, x100, x101, x102, x103, x104, x105, x106, x107, x108, x109], []⟩ wx) := hG
  clear hB hG
  have HC := (show Hid _ from A.new l0 l1 l2 W h0 h1 h2)
  clear h0 h1 h2
  go_wp2_with fail
  refine Calls.mono HC.out ?_
  rintro e wx (⟨q1, rfl, q2⟩ | ⟨q1, g, T, rfl, q2, q3, q4⟩)
  · have HT : Hid (newOk l0 l1 l2 = false ∧ Below W.heap.size W wx) := ⟨q1, q2⟩
    clear q1 q2 HC HG
    dsimp only
    go_wp2_with fail
    exact HB.out wx _ _ _ _ _ _ _ _ _ _ HT.out.1 HT.out.2
  · have HT : Hid (newOk l0 l1 l2 = true ∧ At wx g (SS.new l0.toNat l1.toNat l2.toNat) T ∧ Below W.heap.size W wx ∧ (∀ b, T b → W.heap.size ≤ b)) := ⟨q1, q2, q3, q4⟩
    clear q1 q2 q3 q4 HC HB
    dsimp only
    go_wp2_with fail
    exact HG.out g T wx _ _ _ _ _ _ _ _ _ _ HT.out.1 HT.out.2.1 HT.out.2.2.1 HT.out.2.2.2

set_option maxRecDepth 100000 in
set_option maxHeartbeats 12800000 in
theorem ss_p2 {x0 x1 x3 x4 x5 x6 x7 x8 x9 x10 x11 x12 x13 x14 x15 x16 x17 x18 x19 x20 x21 x22 x23 x24 x25 x26 x27 x28 x29 x30 x31 x32 x33 x34 x35 x36 x37 x38 x39 x40 x41 x42 x43 x44 x45 x46 x47 x48 x49 x50 x51 x52 x53 x54 x55 x56 x57 x58 x59 x60 x61 x62 x63 x64 x65 x66 x67 x68 x69 x70 x71 x72 x73 x74 x75 x76 x77 x78 x79 x80 x81 x82 x83 x84 x85 x86 x87 x88 x89 x90 x91 x92 x93 x94 x95 x96 x97 x98 x99 x100 x101 x102 x103 x104 x105 x106 x107 x108 x109 : Value} {Q : Exit → Act → World → Prop}  {W : World} {G : Nat} {l0 l1 l2 : Int}  (h0 : (-9223372036854775808 ≤ l0 ∧ l0 < 9223372036854775808)) (h1 : (-9223372036854775808 ≤ l1 ∧ l1 < 9223372036854775808)) (h2 : (-9223372036854775808 ≤ l2 ∧ l2 < 9223372036854775808)) (e0 : W.cell? ⟨G, 0, none⟩ = some (.int .i64 l0)) (e1 : W.cell? ⟨G, 1, none⟩ = some (.int .i64 l1)) (e2 : W.cell? ⟨G, 2, none⟩ = some (.int .i64 l2))
    (hB : ∀ (wx : World) (y29 y30 y31 y32 y33 y34 y35 y36 y37 y38 : Value), newOk l0 l1 l2 = false → Below W.heap.size W wx → Q .normal ⟨#[x0, x1, .pointer (some ⟨G, 0, none⟩), x3, x4, x5, x6, .pointer none, .int .i64 1, x9, x10, x11, x12, x13, x14, x15, x16, x17, x18, x19, x20, x21, x22, x23, x24, x25, x26, x27, x28, y29, y30, y31, y32, y33, y34, y35, y36, y37, y38, x39, x40, x41, x42, x43, x44, x45, x46, x47, x48, x49, x50, x51, x52, x53, x54, x55, x56, x57, x58, x59, x60, x61, x62, x63, x64, x65, x66, x67, x68, x69, x70, x71, x72, x73, x74, x75, x76, x77, x78, x79, x80, x81, x82, x83, x84, x85, x86, x87, x88, x89, x90, x91, x92, x93, x94, x95, x96, x97, x98, x99, x100, x101, x102, x103, x104, x105, x106, x107, x108, x109], []⟩ wx)
    (hG : ∀ (g : Nat) (T : Nat → Prop) (wx : World) (y29 y30 y31 y32 y33 y34 y35 y36 y37 y38 : Value), newOk l0 l1 l2 = true → RSes wx g (SS.new l0.toNat l1.toNat l2.toNat) T → Below W.heap.size W wx → (∀ b, T b → W.heap.size ≤ b) → Q .normal ⟨#[x0, x1, .pointer (some ⟨G, 0, none⟩), x3, x4, x5, x6, .pointer (some ⟨g, 0, none⟩), .int .i64 0, x9, x10, x11, x12, x13, x14, x15, x16, x17, x18, x19, x20, x21, x22, x23, x24, x25, x26, x27, x28, y29, y30, y31, y32, y33, y34, y35, y36, y37, y38, x39, x40, x41, x42, x43, x44, x45, x46, x47, x48, x49, x50, x51, x52, x53, x54, x55, x56, x57, x58, x59, x60, x61, x62, x63, x64, x65, x66, x67, x68, x69, x70, x71, x72, x73, x74, x75, x76, x77, x78, x79, x80, x81, x82, x83, x84, x85, x86, x87, x88, x89, x90, x91, x92, x93, x94, x95, x96, x97, x98, x99, x100, x101, x102, x103, x104, x105, x106, x107, x108, x109], []⟩ wx) :
    Code.wp Try.prog ((Try.f3.body.bind (pcAt 2)).getD .skip) Q ⟨#[x0, x1, .pointer (some ⟨G, 0, none⟩), x3, x4, x5, x6, x7, x8, x9, x10, x11, x12, x13, x14, x15, x16, x17, x18, x19, x20, x21, x22, x23, x24, x25, x26, x27, x28, x29, x30, x31, x32, x33, x34, x35, x36, x37, x38, x39, x40, x41, x42, x43, x44, x45, x46, x47, x48, x49, x50, x51, x52, x53, x54, x55, x56, x57, x58, x59, x60, x61, x62, x63, x64, x65, x66, x67, x68, x69, x70, x71, x72, x73, x74, x75, x76, x77, x78, x79, x80, x81, x82, x83, x84, x85, x86, x87, x88, x89, x90, x91, x92, x93, x94, x95, x96, x97, x98, x99, x100, x101, x102, x103, x104, x105, x106, x107, x108, x109], []⟩ W := by
  conv => arg 2; whnf
  have HB : Hid (∀ (wx : World) (y29 y30 y31 y32 y33 y34 y35 y36 y37 y38 : Value), newOk l0 l1 l2 = false → Below W.heap.size W wx → Q .normal ⟨#[x0, x1, .pointer (some ⟨G, 0, none⟩), x3, x4, x5, x6, .pointer none, .int .i64 1, x9, x10, x11, x12, x13, x14, x15, x16, x17, x18, x19, x20, x21, x22, x23, x24, x25, x26, x27, x28, y29, y30, y31, y32, y33, y34, y35, y36, y37, y38, x39, x40, x41, x42, x43, x44, x45, x46, x47, x48, x49, x50, x51, x52, x53, x54, x55, x56, x57, x58, x59, x60, x61, x62, x63, x64, x65, x66, x67, x68, x69, x70, x71, x72, x73, x74, x75, x76, x77, x78, x79, x80, x81, x82, x83, x84, x85, x86, x87, x88, x89, x90, x91, x92, x93, x94, x95, x96, x97, x98, x99, x100, x101, x102, x103, x104, x105, x106, x107, x108, x109], []⟩ wx) := hB
  have HG : Hid (∀ (g : Nat) (T : Nat → Prop) (wx : World) (y29 y30 y31 y32 y33 y34 y35 y36 y37 y38 : Value), newOk l0 l1 l2 = true → RSes wx g (SS.new l0.toNat l1.toNat l2.toNat) T → Below W.heap.size W wx → (∀ b, T b → W.heap.size ≤ b) → Q .normal ⟨#[x0, x1, .pointer (some ⟨G, 0, none⟩), x3, x4, x5, x6, .pointer (some ⟨g, 0, none⟩), .int .i64 0, x9, x10, x11, x12, x13, x14, x15, x16, x17, x18, x19, x20, x21, x22, x23, x24, x25, x26, x27, x28, y29, y30, y31, y32, y33, y34, y35, y36, y37, y38, x39, x40, x41, x42, x43, x44, x45, x46, x47, x48, x49, x50, x51, x52, x53, x54, x55, x56, x57, x58, x59, x60, x61, x62, x63, x64, x65, x66, x67, x68, x69, x70, x71, x72, x73, x74, x75, x76, x77, x78, x79, x80, x81, x82, x83, x84, x85, x86, x87, x88, x89, x90, x91, x92, x93, x94, x95, x96, x97, x98, x99, x100, x101, x102, x103, x104, x105, x106, x107, x108, x109], []⟩ wx) := hG
  clear hB hG
  have HC := (show Hid _ from rses_ok.new l0 l1 l2 W h0 h1 h2)
  clear h0 h1 h2
  go_wp2_with fail
  refine Calls.mono HC.out ?_
  rintro e wx (⟨q1, rfl, q2⟩ | ⟨q1, g, T, rfl, q2, q3, q4⟩)
  · have HT : Hid (newOk l0 l1 l2 = false ∧ Below W.heap.size W wx) := ⟨q1, q2⟩
    clear q1 q2 HC HG
    dsimp only
    go_wp2_with fail
    exact HB.out wx _ _ _ _ _ _ _ _ _ _ HT.out.1 HT.out.2
  · have HT : Hid (newOk l0 l1 l2 = true ∧ RSes wx g (SS.new l0.toNat l1.toNat l2.toNat) T ∧ Below W.heap.size W wx ∧ (∀ b, T b → W.heap.size ≤ b)) := ⟨q1, q2, q3, q4⟩
    clear q1 q2 q3 q4 HC HB
    dsimp only
    go_wp2_with fail
    exact HG.out g T wx _ _ _ _ _ _ _ _ _ _ HT.out.1 HT.out.2.1 HT.out.2.2.1 HT.out.2.2.2

set_option maxRecDepth 100000 in
set_option maxHeartbeats 12800000 in
theorem ss_p3 {x0 x1 x2 x3 x4 x5 x6 x7 x8 x9 x10 x11 x12 x13 x14 x15 x16 x17 x18 x19 x20 x21 x22 x23 x24 x25 x26 x27 x28 x29 x30 x31 x32 x33 x34 x35 x36 x37 x38 x39 x40 x41 x42 x43 x44 x45 x46 x47 x48 x49 x50 x51 x52 x53 x54 x55 x56 x57 x58 x59 x60 x61 x62 x63 x64 x65 x66 x67 x68 x69 x70 x71 x72 x73 x74 x75 x76 x77 x78 x79 x80 x81 x82 x83 x84 x85 x86 x87 x88 x89 x90 x91 x92 x93 x94 x95 x96 x97 x98 x99 x100 x101 x102 x103 x104 x105 x106 x107 x108 x109 : Value} {Q : Exit → Act → World → Prop} {At : World → Nat → SS → (Nat → Prop) → Prop} {W : World} (A : SesOk13 ⟨6, 15, 17, 19, 21, 14, 9, 11⟩ At)
    (hG : ∀ (g : Nat) (wx : World) (y39 y40 y41 y42 : Value), Below W.heap.size W wx → Q .normal ⟨#[x0, x1, x2, x3, x4, x5, x6, x7, x8, .pointer (some ⟨g, 0, none⟩), .int .i64 0, x11, x12, x13, x14, x15, x16, x17, x18, x19, x20, x21, x22, x23, x24, x25, x26, x27, x28, x29, x30, x31, x32, x33, x34, x35, x36, x37, x38, y39, y40, y41, y42, x43, x44, x45, x46, x47, x48, x49, x50, x51, x52, x53, x54, x55, x56, x57, x58, x59, x60, x61, x62, x63, x64, x65, x66, x67, x68, x69, x70, x71, x72, x73, x74, x75, x76, x77, x78, x79, x80, x81, x82, x83, x84, x85, x86, x87, x88, x89, x90, x91, x92, x93, x94, x95, x96, x97, x98, x99, x100, x101, x102, x103, x104, x105, x106, x107, x108, x109], []⟩ wx) :
    Code.wp Try.prog ((Try.f3.body.bind (pcAt 3)).getD .skip) Q ⟨#[x0, x1, x2, x3, x4, x5, x6, x7, x8, x9, x10, x11, x12, x13, x14, x15, x16, x17, x18, x19, x20, x21, x22, x23, x24, x25, x26, x27, x28, x29, x30, x31, x32, x33, x34, x35, x36, x37, x38, x39, x40, x41, x42, x43, x44, x45, x46, x47, x48, x49, x50, x51, x52, x53, x54, x55, x56, x57, x58, x59, x60, x61, x62, x63, x64, x65, x66, x67, x68, x69, x70, x71, x72, x73, x74, x75, x76, x77, x78, x79, x80, x81, x82, x83, x84, x85, x86, x87, x88, x89, x90, x91, x92, x93, x94, x95, x96, x97, x98, x99, x100, x101, x102, x103, x104, x105, x106, x107, x108, x109], []⟩ W := by
  conv => arg 2; whnf
  have HG : Hid (∀ (g : Nat) (wx : World) (y39 y40 y41 y42 : Value), Below W.heap.size W wx → Q .normal ⟨#[x0, x1, x2, x3, x4, x5, x6, x7, x8, .pointer (some ⟨g, 0, none⟩), .int .i64 0, x11, x12, x13, x14, x15, x16, x17, x18, x19, x20, x21, x22, x23, x24, x25, x26, x27, x28, x29, x30, x31, x32, x33, x34, x35, x36, x37, x38, y39, y40, y41, y42, x43, x44, x45, x46, x47, x48, x49, x50, x51, x52, x53, x54, x55, x56, x57, x58, x59, x60, x61, x62, x63, x64, x65, x66, x67, x68, x69, x70, x71, x72, x73, x74, x75, x76, x77, x78, x79, x80, x81, x82, x83, x84, x85, x86, x87, x88, x89, x90, x91, x92, x93, x94, x95, x96, x97, x98, x99, x100, x101, x102, x103, x104, x105, x106, x107, x108, x109], []⟩ wx) := hG
  clear hG
  have HC := (show Hid _ from A.new 0 2 1 W (by decide) (by decide) (by decide))
  go_wp2_with fail
  refine Calls.mono HC.out ?_
  rintro e wx (⟨q1, rfl, q2⟩ | ⟨q1, g, T, rfl, q2, q3, q4⟩)
  · cases q1
  · have HT : Hid (Below W.heap.size W wx) := q3
    clear q1 q2 q3 q4 HC
    dsimp only
    go_wp2_with fail
    exact HG.out g wx _ _ _ _ HT.out

set_option maxRecDepth 100000 in
set_option maxHeartbeats 12800000 in
theorem ss_p4b {x0 x1 x2 x3 x4 x10 x11 x12 x13 x14 x15 x16 x17 x18 x19 x20 x21 x22 x23 x24 x25 x26 x27 x28 x29 x30 x31 x32 x33 x34 x35 x36 x37 x38 x39 x40 x41 x42 x43 x44 x45 x46 x47 x48 x49 x50 x51 x52 x53 x54 x55 x56 x57 x58 x59 x60 x61 x62 x63 x64 x65 x66 x67 x68 x69 x70 x71 x72 x73 x74 x75 x76 x77 x78 x79 x80 x81 x82 x83 x84 x85 x86 x87 x88 x89 x90 x91 x92 x93 x94 x95 x96 x97 x98 x99 x100 x101 x102 x103 x104 x105 x106 x107 x108 x109 : Value} {Q : Exit → Act → World → Prop} {W : World} {g : Nat} 
    (hN : ∀ (y4 y43 y44 y45 y46 y47 y48 y49 y50 y51 y52 y53 y54 y55 y56 : Value), Q .normal ⟨#[x0, x1, x2, x3, y4, .pointer none, .int .i64 1, .pointer none, .int .i64 1, .pointer (some ⟨g, 0, none⟩), x10, x11, x12, x13, x14, x15, x16, x17, x18, x19, x20, x21, x22, x23, x24, x25, x26, x27, x28, x29, x30, x31, x32, x33, x34, x35, x36, x37, x38, x39, x40, x41, x42, y43, y44, y45, y46, y47, y48, y49, y50, y51, y52, y53, y54, y55, y56, x57, x58, x59, x60, x61, x62, x63, x64, x65, x66, x67, x68, x69, x70, x71, x72, x73, x74, x75, x76, x77, x78, x79, x80, x81, x82, x83, x84, x85, x86, x87, x88, x89, x90, x91, x92, x93, x94, x95, x96, x97, x98, x99, x100, x101, x102, x103, x104, x105, x106, x107, x108, x109], []⟩ W) :
    Code.wp Try.prog ((Try.f3.body.bind (pcAt 4)).getD .skip) Q ⟨#[x0, x1, x2, x3, x4, .pointer none, .int .i64 1, .pointer none, .int .i64 1, .pointer (some ⟨g, 0, none⟩), x10, x11, x12, x13, x14, x15, x16, x17, x18, x19, x20, x21, x22, x23, x24, x25, x26, x27, x28, x29, x30, x31, x32, x33, x34, x35, x36, x37, x38, x39, x40, x41, x42, x43, x44, x45, x46, x47, x48, x49, x50, x51, x52, x53, x54, x55, x56, x57, x58, x59, x60, x61, x62, x63, x64, x65, x66, x67, x68, x69, x70, x71, x72, x73, x74, x75, x76, x77, x78, x79, x80, x81, x82, x83, x84, x85, x86, x87, x88, x89, x90, x91, x92, x93, x94, x95, x96, x97, x98, x99, x100, x101, x102, x103, x104, x105, x106, x107, x108, x109], []⟩ W := by
  conv => arg 2; whnf
  have HN : Hid (∀ (y4 y43 y44 y45 y46 y47 y48 y49 y50 y51 y52 y53 y54 y55 y56 : Value), Q .normal ⟨#[x0, x1, x2, x3, y4, .pointer none, .int .i64 1, .pointer none, .int .i64 1, .pointer (some ⟨g, 0, none⟩), x10, x11, x12, x13, x14, x15, x16, x17, x18, x19, x20, x21, x22, x23, x24, x25, x26, x27, x28, x29, x30, x31, x32, x33, x34, x35, x36, x37, x38, x39, x40, x41, x42, y43, y44, y45, y46, y47, y48, y49, y50, y51, y52, y53, y54, y55, y56, x57, x58, x59, x60, x61, x62, x63, x64, x65, x66, x67, x68, x69, x70, x71, x72, x73, x74, x75, x76, x77, x78, x79, x80, x81, x82, x83, x84, x85, x86, x87, x88, x89, x90, x91, x92, x93, x94, x95, x96, x97, x98, x99, x100, x101, x102, x103, x104, x105, x106, x107, x108, x109], []⟩ W) := hN
  clear hN
  go_wp2_with fail
  exact HN.out  _ _ _ _ _ _ _ _ _ _ _ _ _ _ _ 

set_option maxRecDepth 100000 in
set_option maxHeartbeats 12800000 in
theorem ss_p4g {x0 x1 x2 x3 x4 x10 x11 x12 x13 x14 x15 x16 x17 x18 x19 x20 x21 x22 x23 x24 x25 x26 x27 x28 x29 x30 x31 x32 x33 x34 x35 x36 x37 x38 x39 x40 x41 x42 x43 x44 x45 x46 x47 x48 x49 x50 x51 x52 x53 x54 x55 x56 x57 x58 x59 x60 x61 x62 x63 x64 x65 x66 x67 x68 x69 x70 x71 x72 x73 x74 x75 x76 x77 x78 x79 x80 x81 x82 x83 x84 x85 x86 x87 x88 x89 x90 x91 x92 x93 x94 x95 x96 x97 x98 x99 x100 x101 x102 x103 x104 x105 x106 x107 x108 x109 : Value} {Q : Exit → Act → World → Prop} {W : World} {g g0 g1 : Nat} 
    (hN : ∀ (y4 y43 y44 y45 y46 y47 y48 y49 y50 y51 y52 y53 y54 y55 y56 : Value), Q .normal ⟨#[x0, x1, x2, x3, y4, .pointer (some ⟨g0, 0, none⟩), .int .i64 0, .pointer (some ⟨g1, 0, none⟩), .int .i64 0, .pointer (some ⟨g, 0, none⟩), x10, x11, x12, x13, x14, x15, x16, x17, x18, x19, x20, x21, x22, x23, x24, x25, x26, x27, x28, x29, x30, x31, x32, x33, x34, x35, x36, x37, x38, x39, x40, x41, x42, y43, y44, y45, y46, y47, y48, y49, y50, y51, y52, y53, y54, y55, y56, x57, x58, x59, x60, x61, x62, x63, x64, x65, x66, x67, x68, x69, x70, x71, x72, x73, x74, x75, x76, x77, x78, x79, x80, x81, x82, x83, x84, x85, x86, x87, x88, x89, x90, x91, x92, x93, x94, x95, x96, x97, x98, x99, x100, x101, x102, x103, x104, x105, x106, x107, x108, x109], []⟩ W) :
    Code.wp Try.prog ((Try.f3.body.bind (pcAt 4)).getD .skip) Q ⟨#[x0, x1, x2, x3, x4, .pointer (some ⟨g0, 0, none⟩), .int .i64 0, .pointer (some ⟨g1, 0, none⟩), .int .i64 0, .pointer (some ⟨g, 0, none⟩), x10, x11, x12, x13, x14, x15, x16, x17, x18, x19, x20, x21, x22, x23, x24, x25, x26, x27, x28, x29, x30, x31, x32, x33, x34, x35, x36, x37, x38, x39, x40, x41, x42, x43, x44, x45, x46, x47, x48, x49, x50, x51, x52, x53, x54, x55, x56, x57, x58, x59, x60, x61, x62, x63, x64, x65, x66, x67, x68, x69, x70, x71, x72, x73, x74, x75, x76, x77, x78, x79, x80, x81, x82, x83, x84, x85, x86, x87, x88, x89, x90, x91, x92, x93, x94, x95, x96, x97, x98, x99, x100, x101, x102, x103, x104, x105, x106, x107, x108, x109], []⟩ W := by
  conv => arg 2; whnf
  have HN : Hid (∀ (y4 y43 y44 y45 y46 y47 y48 y49 y50 y51 y52 y53 y54 y55 y56 : Value), Q .normal ⟨#[x0, x1, x2, x3, y4, .pointer (some ⟨g0, 0, none⟩), .int .i64 0, .pointer (some ⟨g1, 0, none⟩), .int .i64 0, .pointer (some ⟨g, 0, none⟩), x10, x11, x12, x13, x14, x15, x16, x17, x18, x19, x20, x21, x22, x23, x24, x25, x26, x27, x28, x29, x30, x31, x32, x33, x34, x35, x36, x37, x38, x39, x40, x41, x42, y43, y44, y45, y46, y47, y48, y49, y50, y51, y52, y53, y54, y55, y56, x57, x58, x59, x60, x61, x62, x63, x64, x65, x66, x67, x68, x69, x70, x71, x72, x73, x74, x75, x76, x77, x78, x79, x80, x81, x82, x83, x84, x85, x86, x87, x88, x89, x90, x91, x92, x93, x94, x95, x96, x97, x98, x99, x100, x101, x102, x103, x104, x105, x106, x107, x108, x109], []⟩ W) := hN
  clear hN
  go_wp2_with fail
  exact HN.out  _ _ _ _ _ _ _ _ _ _ _ _ _ _ _ 

set_option maxRecDepth 100000 in
set_option maxHeartbeats 12800000 in
theorem ss_t7n {x0 x2 x3 x4 x6 x7 x8 x9 x10 x12 x13 x14 x15 x16 x17 x18 x19 x20 x21 x22 x23 x24 x25 x26 x27 x28 x29 x30 x31 x32 x33 x34 x35 x36 x37 x38 x39 x40 x41 x42 x43 x44 x45 x46 x47 x48 x49 x50 x51 x52 x53 x54 x55 x56 x57 x58 x59 x60 x61 x62 x63 x64 x65 x66 x67 x68 x69 x70 x71 x72 x73 x74 x75 x76 x77 x78 x79 x80 x81 x82 x83 x84 x85 x86 x87 x88 x89 x90 x91 x92 x93 x94 x95 x96 x97 x98 x99 x100 x101 x102 x103 x104 x105 x106 x107 x108 x109 : Value} {Q : Exit → Act → World → Prop} {W : World} {a : Option Addr} {len cap : Nat} 
    (hE : ∀ (y57 y58 y59 y60 y61 y62 y63 y64 y65 y66 y67 y68 : Value), Q (.exit 0) ⟨#[x0, .slice a len cap, x2, x3, x4, .pointer none, x6, x7, x8, x9, x10, .int .i64 0, x12, x13, x14, x15, x16, x17, x18, x19, x20, x21, x22, x23, x24, x25, x26, x27, x28, x29, x30, x31, x32, x33, x34, x35, x36, x37, x38, x39, x40, x41, x42, x43, x44, x45, x46, x47, x48, x49, x50, x51, x52, x53, x54, x55, x56, y57, y58, y59, y60, y61, y62, y63, y64, y65, y66, y67, y68, x69, x70, x71, x72, x73, x74, x75, x76, x77, x78, x79, x80, x81, x82, x83, x84, x85, x86, x87, x88, x89, x90, x91, x92, x93, x94, x95, x96, x97, x98, x99, x100, x101, x102, x103, x104, x105, x106, x107, x108, x109], []⟩ W) :
    Code.wp Try.prog (((Try.f3.body.bind (pcLoop 0)).bind (pcAt 7)).getD .skip) Q ⟨#[x0, .slice a len cap, x2, x3, x4, .pointer none, x6, x7, x8, x9, x10, .int .i64 0, x12, x13, x14, x15, x16, x17, x18, x19, x20, x21, x22, x23, x24, x25, x26, x27, x28, x29, x30, x31, x32, x33, x34, x35, x36, x37, x38, x39, x40, x41, x42, x43, x44, x45, x46, x47, x48, x49, x50, x51, x52, x53, x54, x55, x56, x57, x58, x59, x60, x61, x62, x63, x64, x65, x66, x67, x68, x69, x70, x71, x72, x73, x74, x75, x76, x77, x78, x79, x80, x81, x82, x83, x84, x85, x86, x87, x88, x89, x90, x91, x92, x93, x94, x95, x96, x97, x98, x99, x100, x101, x102, x103, x104, x105, x106, x107, x108, x109], []⟩ W := by
  conv => arg 2; whnf
  have HE : Hid (∀ (y57 y58 y59 y60 y61 y62 y63 y64 y65 y66 y67 y68 : Value), Q (.exit 0) ⟨#[x0, .slice a len cap, x2, x3, x4, .pointer none, x6, x7, x8, x9, x10, .int .i64 0, x12, x13, x14, x15, x16, x17, x18, x19, x20, x21, x22, x23, x24, x25, x26, x27, x28, x29, x30, x31, x32, x33, x34, x35, x36, x37, x38, x39, x40, x41, x42, x43, x44, x45, x46, x47, x48, x49, x50, x51, x52, x53, x54, x55, x56, y57, y58, y59, y60, y61, y62, y63, y64, y65, y66, y67, y68, x69, x70, x71, x72, x73, x74, x75, x76, x77, x78, x79, x80, x81, x82, x83, x84, x85, x86, x87, x88, x89, x90, x91, x92, x93, x94, x95, x96, x97, x98, x99, x100, x101, x102, x103, x104, x105, x106, x107, x108, x109], []⟩ W) := hE
  clear hE
  by_cases h1 : 0 < len
  · have h1i : (0 : Int) < (len : Int) := by omega
    have h1d : decide (0 < len) = true := decide_eq_true h1
    clear h1
    go_wp2_with fail
    exact HE.out  _ _ _ _ _ _ _ _ _ _ _ _ 
  · obtain rfl : len = 0 := by omega
    clear h1
    go_wp2_with fail
    exact HE.out  _ _ _ _ _ _ _ _ _ _ _ _ 

set_option maxRecDepth 100000 in
set_option maxHeartbeats 12800000 in
theorem ss_t7 {x0 x2 x3 x4 x6 x7 x8 x9 x10 x12 x13 x14 x15 x16 x17 x18 x19 x20 x21 x22 x23 x24 x25 x26 x27 x28 x29 x30 x31 x32 x33 x34 x35 x36 x37 x38 x39 x40 x41 x42 x43 x44 x45 x46 x47 x48 x49 x50 x51 x52 x53 x54 x55 x56 x57 x58 x59 x60 x61 x62 x63 x64 x65 x66 x67 x68 x69 x70 x71 x72 x73 x74 x75 x76 x77 x78 x79 x80 x81 x82 x83 x84 x85 x86 x87 x88 x89 x90 x91 x92 x93 x94 x95 x96 x97 x98 x99 x100 x101 x102 x103 x104 x105 x106 x107 x108 x109 : Value} {Q : Exit → Act → World → Prop} {W : World} {a : Option Addr} {len cap i : Nat} {g : Nat} 
    (hN : ∀ (y57 y58 y59 y60 y61 y62 y63 y64 y65 y66 y67 y68 : Value), i < len → i < 200 → Q .normal ⟨#[x0, .slice a len cap, x2, x3, x4, .pointer (some ⟨g, 0, none⟩), x6, x7, x8, x9, x10, .int .i64 (i : Int), x12, x13, x14, x15, x16, x17, x18, x19, x20, x21, x22, x23, x24, x25, x26, x27, x28, x29, x30, x31, x32, x33, x34, x35, x36, x37, x38, x39, x40, x41, x42, x43, x44, x45, x46, x47, x48, x49, x50, x51, x52, x53, x54, x55, x56, y57, y58, y59, y60, y61, y62, y63, y64, y65, y66, y67, y68, x69, x70, x71, x72, x73, x74, x75, x76, x77, x78, x79, x80, x81, x82, x83, x84, x85, x86, x87, x88, x89, x90, x91, x92, x93, x94, x95, x96, x97, x98, x99, x100, x101, x102, x103, x104, x105, x106, x107, x108, x109], []⟩ W)
    (hE : ∀ (y57 y58 y59 y60 y61 y62 y63 y64 y65 y66 y67 y68 : Value), (len ≤ i ∨ 200 ≤ i) → Q (.exit 0) ⟨#[x0, .slice a len cap, x2, x3, x4, .pointer (some ⟨g, 0, none⟩), x6, x7, x8, x9, x10, .int .i64 (i : Int), x12, x13, x14, x15, x16, x17, x18, x19, x20, x21, x22, x23, x24, x25, x26, x27, x28, x29, x30, x31, x32, x33, x34, x35, x36, x37, x38, x39, x40, x41, x42, x43, x44, x45, x46, x47, x48, x49, x50, x51, x52, x53, x54, x55, x56, y57, y58, y59, y60, y61, y62, y63, y64, y65, y66, y67, y68, x69, x70, x71, x72, x73, x74, x75, x76, x77, x78, x79, x80, x81, x82, x83, x84, x85, x86, x87, x88, x89, x90, x91, x92, x93, x94, x95, x96, x97, x98, x99, x100, x101, x102, x103, x104, x105, x106, x107, x108, x109], []⟩ W) :
    Code.wp Try.prog (((Try.f3.body.bind (pcLoop 0)).bind (pcAt 7)).getD .skip) Q ⟨#[x0, .slice a len cap, x2, x3, x4, .pointer (some ⟨g, 0, none⟩), x6, x7, x8, x9, x10, .int .i64 (i : Int), x12, x13, x14, x15, x16, x17, x18, x19, x20, x21, x22, x23, x24, x25, x26, x27, x28, x29, x30, x31, x32, x33, x34, x35, x36, x37, x38, x39, x40, x41, x42, x43, x44, x45, x46, x47, x48, x49, x50, x51, x52, x53, x54, x55, x56, x57, x58, x59, x60, x61, x62, x63, x64, x65, x66, x67, x68, x69, x70, x71, x72, x73, x74, x75, x76, x77, x78, x79, x80, x81, x82, x83, x84, x85, x86, x87, x88, x89, x90, x91, x92, x93, x94, x95, x96, x97, x98, x99, x100, x101, x102, x103, x104, x105, x106, x107, x108, x109], []⟩ W := by
  conv => arg 2; whnf
  have HN : Hid (∀ (y57 y58 y59 y60 y61 y62 y63 y64 y65 y66 y67 y68 : Value), i < len → i < 200 → Q .normal ⟨#[x0, .slice a len cap, x2, x3, x4, .pointer (some ⟨g, 0, none⟩), x6, x7, x8, x9, x10, .int .i64 (i : Int), x12, x13, x14, x15, x16, x17, x18, x19, x20, x21, x22, x23, x24, x25, x26, x27, x28, x29, x30, x31, x32, x33, x34, x35, x36, x37, x38, x39, x40, x41, x42, x43, x44, x45, x46, x47, x48, x49, x50, x51, x52, x53, x54, x55, x56, y57, y58, y59, y60, y61, y62, y63, y64, y65, y66, y67, y68, x69, x70, x71, x72, x73, x74, x75, x76, x77, x78, x79, x80, x81, x82, x83, x84, x85, x86, x87, x88, x89, x90, x91, x92, x93, x94, x95, x96, x97, x98, x99, x100, x101, x102, x103, x104, x105, x106, x107, x108, x109], []⟩ W) := hN
  have HE : Hid (∀ (y57 y58 y59 y60 y61 y62 y63 y64 y65 y66 y67 y68 : Value), (len ≤ i ∨ 200 ≤ i) → Q (.exit 0) ⟨#[x0, .slice a len cap, x2, x3, x4, .pointer (some ⟨g, 0, none⟩), x6, x7, x8, x9, x10, .int .i64 (i : Int), x12, x13, x14, x15, x16, x17, x18, x19, x20, x21, x22, x23, x24, x25, x26, x27, x28, x29, x30, x31, x32, x33, x34, x35, x36, x37, x38, x39, x40, x41, x42, x43, x44, x45, x46, x47, x48, x49, x50, x51, x52, x53, x54, x55, x56, y57, y58, y59, y60, y61, y62, y63, y64, y65, y66, y67, y68, x69, x70, x71, x72, x73, x74, x75, x76, x77, x78, x79, x80, x81, x82, x83, x84, x85, x86, x87, x88, x89, x90, x91, x92, x93, x94, x95, x96, x97, x98, x99, x100, x101, x102, x103, x104, x105, x106, x107, x108, x109], []⟩ W) := hE
  clear hN hE
  by_cases h1 : i < len
  · have h1i : (i : Int) < (len : Int) := by omega
    have h1d : decide (i < len) = true := decide_eq_true h1
    by_cases h2 : i < 200
    · have h2i : (i : Int) < 200 := by omega
      have HX := (show Hid (i < len ∧ i < 200) from ⟨h1, h2⟩)
      clear HE h1 h2
      go_wp2_with fail
      exact HN.out  _ _ _ _ _ _ _ _ _ _ _ _ HX.out.1 HX.out.2
    · have h2d : decide ((i : Int) < 200) = false := decide_eq_false (by omega)
      have HX : Hid (len ≤ i ∨ 200 ≤ i) := .inr (by omega)
      clear HN h1 h2
      go_wp2_with fail
      exact HE.out  _ _ _ _ _ _ _ _ _ _ _ _ HX.out
  · have h1d : decide (i < len) = false := decide_eq_false h1
    have HX : Hid (len ≤ i ∨ 200 ≤ i) := .inl (by omega)
    clear HN h1
    go_wp2_with fail
    exact HE.out  _ _ _ _ _ _ _ _ _ _ _ _ HX.out

end Go.Proofs.Ytbfjcfebbadkcaa

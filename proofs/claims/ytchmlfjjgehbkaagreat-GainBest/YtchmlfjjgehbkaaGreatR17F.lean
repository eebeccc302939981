/-
  The document's best splits: Best, its first statements. Written by mk/r17e.py.
  The document's best splits: Best, more statements. Written by mk/r17e.py.
  The document's best splits: Best, the second loop. Written by mk/r17e.py.
  The document's best splits: Best. Written by mk/r17e.py.
  Stage 17's laws: what they ask of the program's functions. Written by mk/p17.py.
  Stage 17's laws: awake. Written by mk/p17.py.
-/
import Derived.Test.YtchmlfjjgehbkaaGreatR17A
import Derived.Test.YtchmlfjjgehbkaaGreatD17Rows
import Derived.Deep.RegionHeld3
import Derived.BigQuiet
namespace Go.Proofs.YtchmlfjjgehbkaaGreat
open Go.RowKit

theorem SCell17.drew17 {w : World} {g : Nat} {x y : Int} (h : SCell17 w g x y) : SCell17 w.drew g x y := ⟨h.c0, h.c1, h.f0, h.f1⟩
theorem bst17 {V w : World} {p : Addr} (h : Below V.heap.size V w) (hp : V.heap.size ≤ p.block) (v : Value) : Below V.heap.size V (w.setCell p v) := h.setCell hp v
set_option maxRecDepth 100000 in
set_option maxHeartbeats 12800000 in
theorem bx_p0 {x0 x1 x3 x4 x5 x6 x7 x8 x9 x10 x11 x12 x13 x14 x15 x16 x17 x18 x19 x20 x21 x22 x23 x24 x25 x26 x27 x28 x29 x30 x31 x32 x33 x34 x35 x36 x37 x38 x39 x40 x41 x42 x43 x44 x45 x46 x47 x48 x49 x50 x51 x52 x53 x54 x55 x56 x57 x58 x59 x60 x61 x62 x63 x64 x65 x66 x67 x68 x69 x70 x71 x72 x73 x74 x75 x76 x77 x78 x79 x80 x81 x82 x83 x84 x85 x86 x87 x88 x89 x90 x91 x92 x93 x94 x95 x96 x97 x98 x99 x100 x101 x102 x103 x104 x105 x106 x107 x108 x109 x110 x111 x112 x113 x114 x115 x116 x117 x118 x119 x120 x121 x122 x123 x124 x125 : Value} {Q : Exit → Act → World → Prop} {W : World} {A B : Int} 
    (hN : Q .normal ⟨#[x0, x1, .agg #[.int .i64 A, .int .i64 B], x3, x4, x5, .pointer (some ⟨W.heap.size, 0, none⟩), x7, .slice none 0 0, .int .i64 0, x10, x11, x12, x13, x14, x15, x16, x17, x18, x19, x20, x21, x22, x23, x24, x25, x26, x27, x28, x29, x30, x31, x32, x33, x34, x35, x36, x37, x38, x39, x40, x41, x42, x43, x44, x45, x46, x47, x48, x49, x50, x51, x52, x53, x54, x55, x56, x57, x58, x59, x60, x61, x62, x63, x64, x65, x66, x67, x68, x69, x70, x71, x72, x73, x74, x75, x76, x77, x78, x79, x80, x81, x82, x83, x84, x85, x86, x87, x88, x89, x90, x91, x92, x93, x94, x95, x96, x97, x98, x99, x100, x101, x102, x103, x104, x105, x106, x107, x108, x109, x110, x111, x112, x113, x114, x115, x116, x117, x118, x119, x120, x121, x122, x123, x124, x125], []⟩ (W.alloc (.cells #[.int .i64 A, .int .i64 B] 23))) :
    Code.wp Tryz.prog ((Tryz.f10.body.bind (pcAt 0)).getD .skip) Q ⟨#[x0, x1, .agg #[.int .i64 A, .int .i64 B], x3, x4, x5, x6, x7, x8, x9, x10, x11, x12, x13, x14, x15, x16, x17, x18, x19, x20, x21, x22, x23, x24, x25, x26, x27, x28, x29, x30, x31, x32, x33, x34, x35, x36, x37, x38, x39, x40, x41, x42, x43, x44, x45, x46, x47, x48, x49, x50, x51, x52, x53, x54, x55, x56, x57, x58, x59, x60, x61, x62, x63, x64, x65, x66, x67, x68, x69, x70, x71, x72, x73, x74, x75, x76, x77, x78, x79, x80, x81, x82, x83, x84, x85, x86, x87, x88, x89, x90, x91, x92, x93, x94, x95, x96, x97, x98, x99, x100, x101, x102, x103, x104, x105, x106, x107, x108, x109, x110, x111, x112, x113, x114, x115, x116, x117, x118, x119, x120, x121, x122, x123, x124, x125], []⟩ W := by
  conv => arg 2; whnf
  have HN : Hid (Q .normal ⟨#[x0, x1, .agg #[.int .i64 A, .int .i64 B], x3, x4, x5, .pointer (some ⟨W.heap.size, 0, none⟩), x7, .slice none 0 0, .int .i64 0, x10, x11, x12, x13, x14, x15, x16, x17, x18, x19, x20, x21, x22, x23, x24, x25, x26, x27, x28, x29, x30, x31, x32, x33, x34, x35, x36, x37, x38, x39, x40, x41, x42, x43, x44, x45, x46, x47, x48, x49, x50, x51, x52, x53, x54, x55, x56, x57, x58, x59, x60, x61, x62, x63, x64, x65, x66, x67, x68, x69, x70, x71, x72, x73, x74, x75, x76, x77, x78, x79, x80, x81, x82, x83, x84, x85, x86, x87, x88, x89, x90, x91, x92, x93, x94, x95, x96, x97, x98, x99, x100, x101, x102, x103, x104, x105, x106, x107, x108, x109, x110, x111, x112, x113, x114, x115, x116, x117, x118, x119, x120, x121, x122, x123, x124, x125], []⟩ (W.alloc (.cells #[.int .i64 A, .int .i64 B] 23))) := hN
  clear hN
  go_wp2_with fail
  exact HN.out   

set_option maxRecDepth 100000 in
set_option maxHeartbeats 12800000 in
theorem bx_p1 {x0 x1 x2 x3 x4 x5 x7 x8 x9 x10 x11 x12 x13 x14 x15 x16 x17 x18 x19 x20 x21 x22 x23 x24 x25 x26 x27 x28 x29 x30 x31 x32 x33 x34 x35 x36 x37 x38 x39 x40 x41 x42 x43 x44 x45 x46 x47 x48 x49 x50 x51 x52 x53 x54 x55 x56 x57 x58 x59 x60 x61 x62 x63 x64 x65 x66 x67 x68 x69 x70 x71 x72 x73 x74 x75 x76 x77 x78 x79 x80 x81 x82 x83 x84 x85 x86 x87 x88 x89 x90 x91 x92 x93 x94 x95 x96 x97 x98 x99 x100 x101 x102 x103 x104 x105 x106 x107 x108 x109 x110 x111 x112 x113 x114 x115 x116 x117 x118 x119 x120 x121 x122 x123 x124 x125 : Value} {Q : Exit → Act → World → Prop} {W : World} {g : Nat} {A B : Int} (hg : SVar W g A B)
    (hN : ∀ (z : Bool) (wx : World) (y21 y22 : Value), (z = true ↔ SumOk A B) → Below W.heap.size W wx → Q .normal ⟨#[x0, x1, x2, x3, x4, x5, .pointer (some ⟨g, 0, none⟩), x7, x8, x9, .bool z, x11, x12, x13, x14, x15, x16, x17, x18, x19, x20, y21, y22, x23, x24, x25, x26, x27, x28, x29, x30, x31, x32, x33, x34, x35, x36, x37, x38, x39, x40, x41, x42, x43, x44, x45, x46, x47, x48, x49, x50, x51, x52, x53, x54, x55, x56, x57, x58, x59, x60, x61, x62, x63, x64, x65, x66, x67, x68, x69, x70, x71, x72, x73, x74, x75, x76, x77, x78, x79, x80, x81, x82, x83, x84, x85, x86, x87, x88, x89, x90, x91, x92, x93, x94, x95, x96, x97, x98, x99, x100, x101, x102, x103, x104, x105, x106, x107, x108, x109, x110, x111, x112, x113, x114, x115, x116, x117, x118, x119, x120, x121, x122, x123, x124, x125], []⟩ wx) :
    Code.wp Tryz.prog ((Tryz.f10.body.bind (pcAt 1)).getD .skip) Q ⟨#[x0, x1, x2, x3, x4, x5, .pointer (some ⟨g, 0, none⟩), x7, x8, x9, x10, x11, x12, x13, x14, x15, x16, x17, x18, x19, x20, x21, x22, x23, x24, x25, x26, x27, x28, x29, x30, x31, x32, x33, x34, x35, x36, x37, x38, x39, x40, x41, x42, x43, x44, x45, x46, x47, x48, x49, x50, x51, x52, x53, x54, x55, x56, x57, x58, x59, x60, x61, x62, x63, x64, x65, x66, x67, x68, x69, x70, x71, x72, x73, x74, x75, x76, x77, x78, x79, x80, x81, x82, x83, x84, x85, x86, x87, x88, x89, x90, x91, x92, x93, x94, x95, x96, x97, x98, x99, x100, x101, x102, x103, x104, x105, x106, x107, x108, x109, x110, x111, x112, x113, x114, x115, x116, x117, x118, x119, x120, x121, x122, x123, x124, x125], []⟩ W := by
  conv => arg 2; whnf
  have HN : Hid (∀ (z : Bool) (wx : World) (y21 y22 : Value), (z = true ↔ SumOk A B) → Below W.heap.size W wx → Q .normal ⟨#[x0, x1, x2, x3, x4, x5, .pointer (some ⟨g, 0, none⟩), x7, x8, x9, .bool z, x11, x12, x13, x14, x15, x16, x17, x18, x19, x20, y21, y22, x23, x24, x25, x26, x27, x28, x29, x30, x31, x32, x33, x34, x35, x36, x37, x38, x39, x40, x41, x42, x43, x44, x45, x46, x47, x48, x49, x50, x51, x52, x53, x54, x55, x56, x57, x58, x59, x60, x61, x62, x63, x64, x65, x66, x67, x68, x69, x70, x71, x72, x73, x74, x75, x76, x77, x78, x79, x80, x81, x82, x83, x84, x85, x86, x87, x88, x89, x90, x91, x92, x93, x94, x95, x96, x97, x98, x99, x100, x101, x102, x103, x104, x105, x106, x107, x108, x109, x110, x111, x112, x113, x114, x115, x116, x117, x118, x119, x120, x121, x122, x123, x124, x125], []⟩ wx) := hN
  clear hN
  obtain ⟨x0, x1⟩ := hg.cell
  have HC := (show Hid _ from r16sum_any A B W)
  clear hg
  go_wp2_with fail
  refine Calls.mono HC.out ?_
  rintro e w1 ⟨z, rfl, hz, hb⟩
  have HK : Hid ((z = true ↔ SumOk A B) ∧ Below W.heap.size W w1) := ⟨hz, hb⟩
  clear HC hz hb x0 x1
  go_wp2_with fail
  exact HN.out _ _ _ _ HK.out.1 HK.out.2

set_option maxRecDepth 100000 in
set_option maxHeartbeats 12800000 in
theorem bx_p2 {x2 x4 x5 x6 x7 x8 x9 x11 x12 x13 x14 x15 x16 x17 x18 x19 x20 x21 x22 x23 x24 x25 x26 x27 x28 x29 x30 x31 x32 x33 x34 x35 x36 x37 x38 x39 x40 x41 x42 x43 x44 x45 x46 x47 x48 x49 x50 x51 x52 x53 x54 x55 x56 x57 x58 x59 x60 x61 x62 x63 x64 x65 x66 x67 x68 x69 x70 x71 x72 x73 x74 x75 x76 x77 x78 x79 x80 x81 x82 x83 x84 x85 x86 x87 x88 x89 x90 x91 x92 x93 x94 x95 x96 x97 x98 x99 x100 x101 x102 x103 x104 x105 x106 x107 x108 x109 x110 x111 x112 x113 x114 x115 x116 x117 x118 x119 x120 x121 x122 x123 x124 x125 : Value} {Q : Exit → Act → World → Prop} {W : World} {a : Option Addr} {n c : Nat} {l γ : Int} {z : Bool} 
    (hN : ∀ (y8 y9 y23 y24 y25 y26 y27 y28 y29 y30 y31 y32 y33 y34 y35 y36 y37 y38 y39 y40 y41 y42 y43 y44 y45 : Value), z = true → (0 ≤ γ ∧ γ ≤ 1048576) ∧ LamOk l ∧ n ≤ 16384 → Q .normal ⟨#[.int .i64 l, .int .i64 γ, x2, .slice a n c, x4, x5, x6, x7, y8, y9, .bool z, x11, x12, x13, x14, x15, x16, x17, x18, x19, x20, x21, x22, y23, y24, y25, y26, y27, y28, y29, y30, y31, y32, y33, y34, y35, y36, y37, y38, y39, y40, y41, y42, y43, y44, y45, x46, x47, x48, x49, x50, x51, x52, x53, x54, x55, x56, x57, x58, x59, x60, x61, x62, x63, x64, x65, x66, x67, x68, x69, x70, x71, x72, x73, x74, x75, x76, x77, x78, x79, x80, x81, x82, x83, x84, x85, x86, x87, x88, x89, x90, x91, x92, x93, x94, x95, x96, x97, x98, x99, x100, x101, x102, x103, x104, x105, x106, x107, x108, x109, x110, x111, x112, x113, x114, x115, x116, x117, x118, x119, x120, x121, x122, x123, x124, x125], []⟩ W)
    (hR : ∀ (y23 y24 y25 y26 y27 y28 y29 y30 y31 y32 y33 y34 y35 y36 y37 y38 y39 y40 y41 y42 y43 y44 y45 : Value), ¬ (z = true ∧ (0 ≤ γ ∧ γ ≤ 1048576) ∧ LamOk l ∧ n ≤ 16384) → Q .ret ⟨#[.int .i64 l, .int .i64 γ, x2, .slice a n c, x4, x5, x6, x7, .slice none 0 0, .int .i64 1, .bool z, x11, x12, x13, x14, x15, x16, x17, x18, x19, x20, x21, x22, y23, y24, y25, y26, y27, y28, y29, y30, y31, y32, y33, y34, y35, y36, y37, y38, y39, y40, y41, y42, y43, y44, y45, x46, x47, x48, x49, x50, x51, x52, x53, x54, x55, x56, x57, x58, x59, x60, x61, x62, x63, x64, x65, x66, x67, x68, x69, x70, x71, x72, x73, x74, x75, x76, x77, x78, x79, x80, x81, x82, x83, x84, x85, x86, x87, x88, x89, x90, x91, x92, x93, x94, x95, x96, x97, x98, x99, x100, x101, x102, x103, x104, x105, x106, x107, x108, x109, x110, x111, x112, x113, x114, x115, x116, x117, x118, x119, x120, x121, x122, x123, x124, x125], []⟩ W) :
    Code.wp Tryz.prog ((Tryz.f10.body.bind (pcAt 2)).getD .skip) Q ⟨#[.int .i64 l, .int .i64 γ, x2, .slice a n c, x4, x5, x6, x7, x8, x9, .bool z, x11, x12, x13, x14, x15, x16, x17, x18, x19, x20, x21, x22, x23, x24, x25, x26, x27, x28, x29, x30, x31, x32, x33, x34, x35, x36, x37, x38, x39, x40, x41, x42, x43, x44, x45, x46, x47, x48, x49, x50, x51, x52, x53, x54, x55, x56, x57, x58, x59, x60, x61, x62, x63, x64, x65, x66, x67, x68, x69, x70, x71, x72, x73, x74, x75, x76, x77, x78, x79, x80, x81, x82, x83, x84, x85, x86, x87, x88, x89, x90, x91, x92, x93, x94, x95, x96, x97, x98, x99, x100, x101, x102, x103, x104, x105, x106, x107, x108, x109, x110, x111, x112, x113, x114, x115, x116, x117, x118, x119, x120, x121, x122, x123, x124, x125], []⟩ W := by
  conv => arg 2; whnf
  have HN : Hid (∀ (y8 y9 y23 y24 y25 y26 y27 y28 y29 y30 y31 y32 y33 y34 y35 y36 y37 y38 y39 y40 y41 y42 y43 y44 y45 : Value), z = true → (0 ≤ γ ∧ γ ≤ 1048576) ∧ LamOk l ∧ n ≤ 16384 → Q .normal ⟨#[.int .i64 l, .int .i64 γ, x2, .slice a n c, x4, x5, x6, x7, y8, y9, .bool z, x11, x12, x13, x14, x15, x16, x17, x18, x19, x20, x21, x22, y23, y24, y25, y26, y27, y28, y29, y30, y31, y32, y33, y34, y35, y36, y37, y38, y39, y40, y41, y42, y43, y44, y45, x46, x47, x48, x49, x50, x51, x52, x53, x54, x55, x56, x57, x58, x59, x60, x61, x62, x63, x64, x65, x66, x67, x68, x69, x70, x71, x72, x73, x74, x75, x76, x77, x78, x79, x80, x81, x82, x83, x84, x85, x86, x87, x88, x89, x90, x91, x92, x93, x94, x95, x96, x97, x98, x99, x100, x101, x102, x103, x104, x105, x106, x107, x108, x109, x110, x111, x112, x113, x114, x115, x116, x117, x118, x119, x120, x121, x122, x123, x124, x125], []⟩ W) := hN
  have HR : Hid (∀ (y23 y24 y25 y26 y27 y28 y29 y30 y31 y32 y33 y34 y35 y36 y37 y38 y39 y40 y41 y42 y43 y44 y45 : Value), ¬ (z = true ∧ (0 ≤ γ ∧ γ ≤ 1048576) ∧ LamOk l ∧ n ≤ 16384) → Q .ret ⟨#[.int .i64 l, .int .i64 γ, x2, .slice a n c, x4, x5, x6, x7, .slice none 0 0, .int .i64 1, .bool z, x11, x12, x13, x14, x15, x16, x17, x18, x19, x20, x21, x22, y23, y24, y25, y26, y27, y28, y29, y30, y31, y32, y33, y34, y35, y36, y37, y38, y39, y40, y41, y42, y43, y44, y45, x46, x47, x48, x49, x50, x51, x52, x53, x54, x55, x56, x57, x58, x59, x60, x61, x62, x63, x64, x65, x66, x67, x68, x69, x70, x71, x72, x73, x74, x75, x76, x77, x78, x79, x80, x81, x82, x83, x84, x85, x86, x87, x88, x89, x90, x91, x92, x93, x94, x95, x96, x97, x98, x99, x100, x101, x102, x103, x104, x105, x106, x107, x108, x109, x110, x111, x112, x113, x114, x115, x116, x117, x118, x119, x120, x121, x122, x123, x124, x125], []⟩ W) := hR
  clear hN hR
  cases z with
  | false =>
    clear HN
    go_wp2_with fail
    exact HR.out  _ _ _ _ _ _ _ _ _ _ _ _ _ _ _ _ _ _ _ _ _ _ _ (fun e => by cases e.1)
  | true =>
    by_cases q0 : γ < 0
    · have d0 : decide (γ < 0) = true := decide_eq_true q0
      have HX : Hid (¬ (True ∧ (0 ≤ γ ∧ γ ≤ 1048576) ∧ LamOk l ∧ n ≤ 16384)) := fun e => by have h1 := e.2.1; have h2 := e.2.2.1.1; have h3 := e.2.2.1.2; have h4 := e.2.2.2; omega
      clear HN q0
      go_wp2_with fail
      exact HR.out  _ _ _ _ _ _ _ _ _ _ _ _ _ _ _ _ _ _ _ _ _ _ _ (fun e => HX.out ⟨trivial, e.2⟩)
    have d0 : decide (γ < 0) = false := decide_eq_false q0
    by_cases q1 : 1048576 < γ
    · have d1 : decide (1048576 < γ) = true := decide_eq_true q1
      have HX : Hid (¬ (True ∧ (0 ≤ γ ∧ γ ≤ 1048576) ∧ LamOk l ∧ n ≤ 16384)) := fun e => by have h1 := e.2.1; have h2 := e.2.2.1.1; have h3 := e.2.2.1.2; have h4 := e.2.2.2; omega
      clear HN q0 q1
      go_wp2_with fail
      exact HR.out  _ _ _ _ _ _ _ _ _ _ _ _ _ _ _ _ _ _ _ _ _ _ _ (fun e => HX.out ⟨trivial, e.2⟩)
    have d1 : decide (1048576 < γ) = false := decide_eq_false q1
    by_cases q2 : l < 1
    · have d2 : decide (l < 1) = true := decide_eq_true q2
      have HX : Hid (¬ (True ∧ (0 ≤ γ ∧ γ ≤ 1048576) ∧ LamOk l ∧ n ≤ 16384)) := fun e => by have h1 := e.2.1; have h2 := e.2.2.1.1; have h3 := e.2.2.1.2; have h4 := e.2.2.2; omega
      clear HN q0 q1 q2
      go_wp2_with fail
      exact HR.out  _ _ _ _ _ _ _ _ _ _ _ _ _ _ _ _ _ _ _ _ _ _ _ (fun e => HX.out ⟨trivial, e.2⟩)
    have d2 : decide (l < 1) = false := decide_eq_false q2
    by_cases q3 : 1048576 < l
    · have d3 : decide (1048576 < l) = true := decide_eq_true q3
      have HX : Hid (¬ (True ∧ (0 ≤ γ ∧ γ ≤ 1048576) ∧ LamOk l ∧ n ≤ 16384)) := fun e => by have h1 := e.2.1; have h2 := e.2.2.1.1; have h3 := e.2.2.1.2; have h4 := e.2.2.2; omega
      clear HN q0 q1 q2 q3
      go_wp2_with fail
      exact HR.out  _ _ _ _ _ _ _ _ _ _ _ _ _ _ _ _ _ _ _ _ _ _ _ (fun e => HX.out ⟨trivial, e.2⟩)
    have d3 : decide (1048576 < l) = false := decide_eq_false q3
    by_cases q4 : 16384 < n
    · have d4 : decide ((16384 : Int) < (n : Int)) = true := decide_eq_true (by omega)
      have HX : Hid (¬ (True ∧ (0 ≤ γ ∧ γ ≤ 1048576) ∧ LamOk l ∧ n ≤ 16384)) := fun e => by have h1 := e.2.1; have h2 := e.2.2.1.1; have h3 := e.2.2.1.2; have h4 := e.2.2.2; omega
      clear HN q0 q1 q2 q3 q4
      go_wp2_with fail
      exact HR.out  _ _ _ _ _ _ _ _ _ _ _ _ _ _ _ _ _ _ _ _ _ _ _ (fun e => HX.out ⟨trivial, e.2⟩)
    have d4 : decide ((16384 : Int) < (n : Int)) = false := decide_eq_false (by omega)
    have HX : Hid ((0 ≤ γ ∧ γ ≤ 1048576) ∧ LamOk l ∧ n ≤ 16384) := ⟨⟨by omega, by omega⟩, ⟨by omega, by omega⟩, by omega⟩
    clear HR q0 q1 q2 q3 q4
    go_wp2_with fail
    exact HN.out  _ _ _ _ _ _ _ _ _ _ _ _ _ _ _ _ _ _ _ _ _ _ _ _ _ (by trivial) HX.out

set_option maxRecDepth 100000 in
set_option maxHeartbeats 12800000 in
theorem bx_t5 {x0 x1 x2 x4 x5 x6 x7 x8 x9 x10 x12 x13 x14 x15 x16 x17 x18 x19 x20 x21 x22 x23 x24 x25 x26 x27 x28 x29 x30 x31 x32 x33 x34 x35 x36 x37 x38 x39 x40 x41 x42 x43 x44 x45 x46 x47 x48 x49 x50 x51 x52 x53 x54 x55 x56 x57 x58 x59 x60 x61 x62 x63 x64 x65 x66 x67 x68 x69 x70 x71 x72 x73 x74 x75 x76 x77 x78 x79 x80 x81 x82 x83 x84 x85 x86 x87 x88 x89 x90 x91 x92 x93 x94 x95 x96 x97 x98 x99 x100 x101 x102 x103 x104 x105 x106 x107 x108 x109 x110 x111 x112 x113 x114 x115 x116 x117 x118 x119 x120 x121 x122 x123 x124 x125 : Value} {Q : Exit → Act → World → Prop} {W : World} {a : Option Addr} {n c i : Nat} (hi : i ≤ n)
    (hN : ∀ (y46 y47 y48 y49 : Value), i < n → Q .normal ⟨#[x0, x1, x2, .slice a n c, x4, x5, x6, x7, x8, x9, x10, .int .i64 (i : Int), x12, x13, x14, x15, x16, x17, x18, x19, x20, x21, x22, x23, x24, x25, x26, x27, x28, x29, x30, x31, x32, x33, x34, x35, x36, x37, x38, x39, x40, x41, x42, x43, x44, x45, y46, y47, y48, y49, x50, x51, x52, x53, x54, x55, x56, x57, x58, x59, x60, x61, x62, x63, x64, x65, x66, x67, x68, x69, x70, x71, x72, x73, x74, x75, x76, x77, x78, x79, x80, x81, x82, x83, x84, x85, x86, x87, x88, x89, x90, x91, x92, x93, x94, x95, x96, x97, x98, x99, x100, x101, x102, x103, x104, x105, x106, x107, x108, x109, x110, x111, x112, x113, x114, x115, x116, x117, x118, x119, x120, x121, x122, x123, x124, x125], []⟩ W)
    (hE : ∀ (y46 y47 y48 y49 : Value), i = n → Q (.exit 0) ⟨#[x0, x1, x2, .slice a n c, x4, x5, x6, x7, x8, x9, x10, .int .i64 (i : Int), x12, x13, x14, x15, x16, x17, x18, x19, x20, x21, x22, x23, x24, x25, x26, x27, x28, x29, x30, x31, x32, x33, x34, x35, x36, x37, x38, x39, x40, x41, x42, x43, x44, x45, y46, y47, y48, y49, x50, x51, x52, x53, x54, x55, x56, x57, x58, x59, x60, x61, x62, x63, x64, x65, x66, x67, x68, x69, x70, x71, x72, x73, x74, x75, x76, x77, x78, x79, x80, x81, x82, x83, x84, x85, x86, x87, x88, x89, x90, x91, x92, x93, x94, x95, x96, x97, x98, x99, x100, x101, x102, x103, x104, x105, x106, x107, x108, x109, x110, x111, x112, x113, x114, x115, x116, x117, x118, x119, x120, x121, x122, x123, x124, x125], []⟩ W) :
    Code.wp Tryz.prog (((Tryz.f10.body.bind (pcLoop 0)).bind (pcAt 5)).getD .skip) Q ⟨#[x0, x1, x2, .slice a n c, x4, x5, x6, x7, x8, x9, x10, .int .i64 (i : Int), x12, x13, x14, x15, x16, x17, x18, x19, x20, x21, x22, x23, x24, x25, x26, x27, x28, x29, x30, x31, x32, x33, x34, x35, x36, x37, x38, x39, x40, x41, x42, x43, x44, x45, x46, x47, x48, x49, x50, x51, x52, x53, x54, x55, x56, x57, x58, x59, x60, x61, x62, x63, x64, x65, x66, x67, x68, x69, x70, x71, x72, x73, x74, x75, x76, x77, x78, x79, x80, x81, x82, x83, x84, x85, x86, x87, x88, x89, x90, x91, x92, x93, x94, x95, x96, x97, x98, x99, x100, x101, x102, x103, x104, x105, x106, x107, x108, x109, x110, x111, x112, x113, x114, x115, x116, x117, x118, x119, x120, x121, x122, x123, x124, x125], []⟩ W := by
  conv => arg 2; whnf
  have HN : Hid (∀ (y46 y47 y48 y49 : Value), i < n → Q .normal ⟨#[x0, x1, x2, .slice a n c, x4, x5, x6, x7, x8, x9, x10, .int .i64 (i : Int), x12, x13, x14, x15, x16, x17, x18, x19, x20, x21, x22, x23, x24, x25, x26, x27, x28, x29, x30, x31, x32, x33, x34, x35, x36, x37, x38, x39, x40, x41, x42, x43, x44, x45, y46, y47, y48, y49, x50, x51, x52, x53, x54, x55, x56, x57, x58, x59, x60, x61, x62, x63, x64, x65, x66, x67, x68, x69, x70, x71, x72, x73, x74, x75, x76, x77, x78, x79, x80, x81, x82, x83, x84, x85, x86, x87, x88, x89, x90, x91, x92, x93, x94, x95, x96, x97, x98, x99, x100, x101, x102, x103, x104, x105, x106, x107, x108, x109, x110, x111, x112, x113, x114, x115, x116, x117, x118, x119, x120, x121, x122, x123, x124, x125], []⟩ W) := hN
  have HE : Hid (∀ (y46 y47 y48 y49 : Value), i = n → Q (.exit 0) ⟨#[x0, x1, x2, .slice a n c, x4, x5, x6, x7, x8, x9, x10, .int .i64 (i : Int), x12, x13, x14, x15, x16, x17, x18, x19, x20, x21, x22, x23, x24, x25, x26, x27, x28, x29, x30, x31, x32, x33, x34, x35, x36, x37, x38, x39, x40, x41, x42, x43, x44, x45, y46, y47, y48, y49, x50, x51, x52, x53, x54, x55, x56, x57, x58, x59, x60, x61, x62, x63, x64, x65, x66, x67, x68, x69, x70, x71, x72, x73, x74, x75, x76, x77, x78, x79, x80, x81, x82, x83, x84, x85, x86, x87, x88, x89, x90, x91, x92, x93, x94, x95, x96, x97, x98, x99, x100, x101, x102, x103, x104, x105, x106, x107, x108, x109, x110, x111, x112, x113, x114, x115, x116, x117, x118, x119, x120, x121, x122, x123, x124, x125], []⟩ W) := hE
  clear hN hE
  by_cases hlt : i < n
  · have hlti : (i : Int) < (n : Int) := by omega
    clear HE
    go_wp2_with fail
    exact HN.out  _ _ _ _ hlt
  · have hlti : decide (i < n) = false := decide_eq_false hlt
    have HE2 : Hid (i = n) := by show _ = _; omega
    clear HN hi
    go_wp2_with fail
    exact HE.out  _ _ _ _ HE2.out

set_option maxRecDepth 100000 in
set_option maxHeartbeats 12800000 in
theorem bx_t13 {x0 x1 x2 x4 x5 x6 x7 x8 x9 x10 x11 x12 x13 x14 x15 x16 x18 x19 x20 x21 x22 x23 x24 x25 x26 x27 x28 x29 x30 x31 x32 x33 x34 x35 x36 x37 x38 x39 x40 x41 x42 x43 x44 x45 x46 x47 x48 x49 x50 x51 x52 x53 x54 x55 x56 x57 x58 x59 x60 x61 x62 x63 x64 x65 x66 x67 x68 x69 x70 x71 x72 x73 x74 x75 x76 x77 x78 x79 x80 x81 x82 x83 x84 x85 x86 x87 x88 x89 x90 x91 x92 x93 x94 x95 x96 x97 x98 x99 x100 x101 x102 x103 x104 x105 x106 x107 x108 x109 x110 x111 x112 x113 x114 x115 x116 x117 x118 x119 x120 x121 x122 x123 x124 x125 : Value} {Q : Exit → Act → World → Prop} {W : World} {a : Option Addr} {n c i : Nat} (hi : i ≤ n)
    (hN : ∀ (y71 y72 y73 y74 : Value), i < n → Q .normal ⟨#[x0, x1, x2, .slice a n c, x4, x5, x6, x7, x8, x9, x10, x11, x12, x13, x14, x15, x16, .int .i64 (i : Int), x18, x19, x20, x21, x22, x23, x24, x25, x26, x27, x28, x29, x30, x31, x32, x33, x34, x35, x36, x37, x38, x39, x40, x41, x42, x43, x44, x45, x46, x47, x48, x49, x50, x51, x52, x53, x54, x55, x56, x57, x58, x59, x60, x61, x62, x63, x64, x65, x66, x67, x68, x69, x70, y71, y72, y73, y74, x75, x76, x77, x78, x79, x80, x81, x82, x83, x84, x85, x86, x87, x88, x89, x90, x91, x92, x93, x94, x95, x96, x97, x98, x99, x100, x101, x102, x103, x104, x105, x106, x107, x108, x109, x110, x111, x112, x113, x114, x115, x116, x117, x118, x119, x120, x121, x122, x123, x124, x125], []⟩ W)
    (hE : ∀ (y71 y72 y73 y74 : Value), i = n → Q (.exit 2) ⟨#[x0, x1, x2, .slice a n c, x4, x5, x6, x7, x8, x9, x10, x11, x12, x13, x14, x15, x16, .int .i64 (i : Int), x18, x19, x20, x21, x22, x23, x24, x25, x26, x27, x28, x29, x30, x31, x32, x33, x34, x35, x36, x37, x38, x39, x40, x41, x42, x43, x44, x45, x46, x47, x48, x49, x50, x51, x52, x53, x54, x55, x56, x57, x58, x59, x60, x61, x62, x63, x64, x65, x66, x67, x68, x69, x70, y71, y72, y73, y74, x75, x76, x77, x78, x79, x80, x81, x82, x83, x84, x85, x86, x87, x88, x89, x90, x91, x92, x93, x94, x95, x96, x97, x98, x99, x100, x101, x102, x103, x104, x105, x106, x107, x108, x109, x110, x111, x112, x113, x114, x115, x116, x117, x118, x119, x120, x121, x122, x123, x124, x125], []⟩ W) :
    Code.wp Tryz.prog (((Tryz.f10.body.bind (pcLoop 2)).bind (pcAt 13)).getD .skip) Q ⟨#[x0, x1, x2, .slice a n c, x4, x5, x6, x7, x8, x9, x10, x11, x12, x13, x14, x15, x16, .int .i64 (i : Int), x18, x19, x20, x21, x22, x23, x24, x25, x26, x27, x28, x29, x30, x31, x32, x33, x34, x35, x36, x37, x38, x39, x40, x41, x42, x43, x44, x45, x46, x47, x48, x49, x50, x51, x52, x53, x54, x55, x56, x57, x58, x59, x60, x61, x62, x63, x64, x65, x66, x67, x68, x69, x70, x71, x72, x73, x74, x75, x76, x77, x78, x79, x80, x81, x82, x83, x84, x85, x86, x87, x88, x89, x90, x91, x92, x93, x94, x95, x96, x97, x98, x99, x100, x101, x102, x103, x104, x105, x106, x107, x108, x109, x110, x111, x112, x113, x114, x115, x116, x117, x118, x119, x120, x121, x122, x123, x124, x125], []⟩ W := by
  conv => arg 2; whnf
  have HN : Hid (∀ (y71 y72 y73 y74 : Value), i < n → Q .normal ⟨#[x0, x1, x2, .slice a n c, x4, x5, x6, x7, x8, x9, x10, x11, x12, x13, x14, x15, x16, .int .i64 (i : Int), x18, x19, x20, x21, x22, x23, x24, x25, x26, x27, x28, x29, x30, x31, x32, x33, x34, x35, x36, x37, x38, x39, x40, x41, x42, x43, x44, x45, x46, x47, x48, x49, x50, x51, x52, x53, x54, x55, x56, x57, x58, x59, x60, x61, x62, x63, x64, x65, x66, x67, x68, x69, x70, y71, y72, y73, y74, x75, x76, x77, x78, x79, x80, x81, x82, x83, x84, x85, x86, x87, x88, x89, x90, x91, x92, x93, x94, x95, x96, x97, x98, x99, x100, x101, x102, x103, x104, x105, x106, x107, x108, x109, x110, x111, x112, x113, x114, x115, x116, x117, x118, x119, x120, x121, x122, x123, x124, x125], []⟩ W) := hN
  have HE : Hid (∀ (y71 y72 y73 y74 : Value), i = n → Q (.exit 2) ⟨#[x0, x1, x2, .slice a n c, x4, x5, x6, x7, x8, x9, x10, x11, x12, x13, x14, x15, x16, .int .i64 (i : Int), x18, x19, x20, x21, x22, x23, x24, x25, x26, x27, x28, x29, x30, x31, x32, x33, x34, x35, x36, x37, x38, x39, x40, x41, x42, x43, x44, x45, x46, x47, x48, x49, x50, x51, x52, x53, x54, x55, x56, x57, x58, x59, x60, x61, x62, x63, x64, x65, x66, x67, x68, x69, x70, y71, y72, y73, y74, x75, x76, x77, x78, x79, x80, x81, x82, x83, x84, x85, x86, x87, x88, x89, x90, x91, x92, x93, x94, x95, x96, x97, x98, x99, x100, x101, x102, x103, x104, x105, x106, x107, x108, x109, x110, x111, x112, x113, x114, x115, x116, x117, x118, x119, x120, x121, x122, x123, x124, x125], []⟩ W) := hE
  clear hN hE
  by_cases hlt : i < n
  · have hlti : (i : Int) < (n : Int) := by omega
    clear HE
    go_wp2_with fail
    exact HN.out  _ _ _ _ hlt
  · have hlti : decide (i < n) = false := decide_eq_false hlt
    have HE2 : Hid (i = n) := by show _ = _; omega
    clear HN hi
    go_wp2_with fail
    exact HE.out  _ _ _ _ HE2.out

set_option maxRecDepth 100000 in
set_option maxHeartbeats 12800000 in
theorem bx_p6 {x0 x1 x2 x3 x4 x5 x6 x7 x8 x9 x10 x12 x13 x14 x15 x16 x17 x18 x19 x20 x21 x22 x23 x24 x25 x26 x27 x28 x29 x30 x31 x32 x33 x34 x35 x36 x37 x38 x39 x40 x41 x42 x43 x44 x45 x46 x47 x48 x49 x50 x51 x52 x53 x54 x55 x56 x57 x58 x59 x60 x61 x62 x63 x64 x65 x66 x67 x68 x69 x70 x71 x72 x73 x74 x75 x76 x77 x78 x79 x80 x81 x82 x83 x84 x85 x86 x87 x88 x89 x90 x91 x92 x93 x94 x95 x96 x97 x98 x99 x100 x101 x102 x103 x104 x105 x106 x107 x108 x109 x110 x111 x112 x113 x114 x115 x116 x117 x118 x119 x120 x121 x122 x123 x124 x125 : Value} {Q : Exit → Act → World → Prop} {W : World} {i : Nat} (h : i < 9223372036854775807)
    (hN : ∀ (y50 y51 : Value), Q .normal ⟨#[x0, x1, x2, x3, x4, x5, x6, x7, x8, x9, x10, .int .i64 ((i + 1 : Nat) : Int), x12, x13, x14, x15, x16, x17, x18, x19, x20, x21, x22, x23, x24, x25, x26, x27, x28, x29, x30, x31, x32, x33, x34, x35, x36, x37, x38, x39, x40, x41, x42, x43, x44, x45, x46, x47, x48, x49, y50, y51, x52, x53, x54, x55, x56, x57, x58, x59, x60, x61, x62, x63, x64, x65, x66, x67, x68, x69, x70, x71, x72, x73, x74, x75, x76, x77, x78, x79, x80, x81, x82, x83, x84, x85, x86, x87, x88, x89, x90, x91, x92, x93, x94, x95, x96, x97, x98, x99, x100, x101, x102, x103, x104, x105, x106, x107, x108, x109, x110, x111, x112, x113, x114, x115, x116, x117, x118, x119, x120, x121, x122, x123, x124, x125], []⟩ W) :
    Code.wp Tryz.prog (((Tryz.f10.body.bind (pcLoop 0)).bind (pcAt 6)).getD .skip) Q ⟨#[x0, x1, x2, x3, x4, x5, x6, x7, x8, x9, x10, .int .i64 (i : Int), x12, x13, x14, x15, x16, x17, x18, x19, x20, x21, x22, x23, x24, x25, x26, x27, x28, x29, x30, x31, x32, x33, x34, x35, x36, x37, x38, x39, x40, x41, x42, x43, x44, x45, x46, x47, x48, x49, x50, x51, x52, x53, x54, x55, x56, x57, x58, x59, x60, x61, x62, x63, x64, x65, x66, x67, x68, x69, x70, x71, x72, x73, x74, x75, x76, x77, x78, x79, x80, x81, x82, x83, x84, x85, x86, x87, x88, x89, x90, x91, x92, x93, x94, x95, x96, x97, x98, x99, x100, x101, x102, x103, x104, x105, x106, x107, x108, x109, x110, x111, x112, x113, x114, x115, x116, x117, x118, x119, x120, x121, x122, x123, x124, x125], []⟩ W := by
  conv => arg 2; whnf
  have HN : Hid (∀ (y50 y51 : Value), Q .normal ⟨#[x0, x1, x2, x3, x4, x5, x6, x7, x8, x9, x10, .int .i64 ((i + 1 : Nat) : Int), x12, x13, x14, x15, x16, x17, x18, x19, x20, x21, x22, x23, x24, x25, x26, x27, x28, x29, x30, x31, x32, x33, x34, x35, x36, x37, x38, x39, x40, x41, x42, x43, x44, x45, x46, x47, x48, x49, y50, y51, x52, x53, x54, x55, x56, x57, x58, x59, x60, x61, x62, x63, x64, x65, x66, x67, x68, x69, x70, x71, x72, x73, x74, x75, x76, x77, x78, x79, x80, x81, x82, x83, x84, x85, x86, x87, x88, x89, x90, x91, x92, x93, x94, x95, x96, x97, x98, x99, x100, x101, x102, x103, x104, x105, x106, x107, x108, x109, x110, x111, x112, x113, x114, x115, x116, x117, x118, x119, x120, x121, x122, x123, x124, x125], []⟩ W) := hN
  clear hN
  have e : ((i + 1 : Nat) : Int) = (i : Int) + 1 := by omega
  rw [e] at HN
  go_wp2_with fail
  exact HN.out  _ _ 

set_option maxRecDepth 100000 in
set_option maxHeartbeats 12800000 in
theorem bx_p14 {x0 x1 x2 x3 x4 x5 x6 x7 x8 x9 x10 x11 x12 x13 x14 x15 x16 x18 x19 x20 x21 x22 x23 x24 x25 x26 x27 x28 x29 x30 x31 x32 x33 x34 x35 x36 x37 x38 x39 x40 x41 x42 x43 x44 x45 x46 x47 x48 x49 x50 x51 x52 x53 x54 x55 x56 x57 x58 x59 x60 x61 x62 x63 x64 x65 x66 x67 x68 x69 x70 x71 x72 x73 x74 x75 x76 x77 x78 x79 x80 x81 x82 x83 x84 x85 x86 x87 x88 x89 x90 x91 x92 x93 x94 x95 x96 x97 x98 x99 x100 x101 x102 x103 x104 x105 x106 x107 x108 x109 x110 x111 x112 x113 x114 x115 x116 x117 x118 x119 x120 x121 x122 x123 x124 x125 : Value} {Q : Exit → Act → World → Prop} {W : World} {i : Nat} (h : i < 9223372036854775807)
    (hN : ∀ (y75 y76 : Value), Q .normal ⟨#[x0, x1, x2, x3, x4, x5, x6, x7, x8, x9, x10, x11, x12, x13, x14, x15, x16, .int .i64 ((i + 1 : Nat) : Int), x18, x19, x20, x21, x22, x23, x24, x25, x26, x27, x28, x29, x30, x31, x32, x33, x34, x35, x36, x37, x38, x39, x40, x41, x42, x43, x44, x45, x46, x47, x48, x49, x50, x51, x52, x53, x54, x55, x56, x57, x58, x59, x60, x61, x62, x63, x64, x65, x66, x67, x68, x69, x70, x71, x72, x73, x74, y75, y76, x77, x78, x79, x80, x81, x82, x83, x84, x85, x86, x87, x88, x89, x90, x91, x92, x93, x94, x95, x96, x97, x98, x99, x100, x101, x102, x103, x104, x105, x106, x107, x108, x109, x110, x111, x112, x113, x114, x115, x116, x117, x118, x119, x120, x121, x122, x123, x124, x125], []⟩ W) :
    Code.wp Tryz.prog (((Tryz.f10.body.bind (pcLoop 2)).bind (pcAt 14)).getD .skip) Q ⟨#[x0, x1, x2, x3, x4, x5, x6, x7, x8, x9, x10, x11, x12, x13, x14, x15, x16, .int .i64 (i : Int), x18, x19, x20, x21, x22, x23, x24, x25, x26, x27, x28, x29, x30, x31, x32, x33, x34, x35, x36, x37, x38, x39, x40, x41, x42, x43, x44, x45, x46, x47, x48, x49, x50, x51, x52, x53, x54, x55, x56, x57, x58, x59, x60, x61, x62, x63, x64, x65, x66, x67, x68, x69, x70, x71, x72, x73, x74, x75, x76, x77, x78, x79, x80, x81, x82, x83, x84, x85, x86, x87, x88, x89, x90, x91, x92, x93, x94, x95, x96, x97, x98, x99, x100, x101, x102, x103, x104, x105, x106, x107, x108, x109, x110, x111, x112, x113, x114, x115, x116, x117, x118, x119, x120, x121, x122, x123, x124, x125], []⟩ W := by
  conv => arg 2; whnf
  have HN : Hid (∀ (y75 y76 : Value), Q .normal ⟨#[x0, x1, x2, x3, x4, x5, x6, x7, x8, x9, x10, x11, x12, x13, x14, x15, x16, .int .i64 ((i + 1 : Nat) : Int), x18, x19, x20, x21, x22, x23, x24, x25, x26, x27, x28, x29, x30, x31, x32, x33, x34, x35, x36, x37, x38, x39, x40, x41, x42, x43, x44, x45, x46, x47, x48, x49, x50, x51, x52, x53, x54, x55, x56, x57, x58, x59, x60, x61, x62, x63, x64, x65, x66, x67, x68, x69, x70, x71, x72, x73, x74, y75, y76, x77, x78, x79, x80, x81, x82, x83, x84, x85, x86, x87, x88, x89, x90, x91, x92, x93, x94, x95, x96, x97, x98, x99, x100, x101, x102, x103, x104, x105, x106, x107, x108, x109, x110, x111, x112, x113, x114, x115, x116, x117, x118, x119, x120, x121, x122, x123, x124, x125], []⟩ W) := hN
  clear hN
  have e : ((i + 1 : Nat) : Int) = (i : Int) + 1 := by omega
  rw [e] at HN
  go_wp2_with fail
  exact HN.out  _ _ 

set_option maxRecDepth 100000 in
set_option maxHeartbeats 12800000 in
theorem bx_p7 {x0 x1 x2 x4 x5 x7 x8 x9 x10 x12 x13 x14 x15 x16 x17 x18 x19 x20 x21 x22 x23 x24 x25 x26 x27 x28 x29 x30 x31 x32 x33 x34 x35 x36 x37 x38 x39 x40 x41 x42 x43 x44 x45 x46 x47 x48 x49 x50 x51 x52 x53 x54 x55 x56 x57 x58 x59 x60 x61 x62 x63 x64 x65 x66 x67 x68 x69 x70 x71 x72 x73 x74 x75 x76 x77 x78 x79 x80 x81 x82 x83 x84 x85 x86 x87 x88 x89 x90 x91 x92 x93 x94 x95 x96 x97 x98 x99 x100 x101 x102 x103 x104 x105 x106 x107 x108 x109 x110 x111 x112 x113 x114 x115 x116 x117 x118 x119 x120 x121 x122 x123 x124 x125 : Value} {Q : Exit → Act → World → Prop} {W : World} {g b off n c i : Nat} {A B x y : Int} (hg : SVar W g A B) (z0 : W.cell? ⟨b, off + i * 2, none⟩ = some (.int .i64 x)) (z1 : W.cell? ⟨b, off + i * 2 + 1, none⟩ = some (.int .i64 y)) (hi : i < n)
    (hN : ∀ (z : Bool) (s : Nat) (wx : World) (y52 y53 y54 y55 y56 y57 y58 y59 y60 : Value), (z = true ↔ SumOk x y ∧ SumOk A B ∧ SumOk (A - x) (B - y)) → Below W.heap.size W wx → Q .normal ⟨#[x0, x1, x2, .slice (some ⟨b, off, none⟩) n c, x4, x5, .pointer (some ⟨g, 0, none⟩), x7, x8, x9, x10, .int .i64 (i : Int), .pointer (some ⟨s, 0, none⟩), .bool z, x14, x15, x16, x17, x18, x19, x20, x21, x22, x23, x24, x25, x26, x27, x28, x29, x30, x31, x32, x33, x34, x35, x36, x37, x38, x39, x40, x41, x42, x43, x44, x45, x46, x47, x48, x49, x50, x51, y52, y53, y54, y55, y56, y57, y58, y59, y60, x61, x62, x63, x64, x65, x66, x67, x68, x69, x70, x71, x72, x73, x74, x75, x76, x77, x78, x79, x80, x81, x82, x83, x84, x85, x86, x87, x88, x89, x90, x91, x92, x93, x94, x95, x96, x97, x98, x99, x100, x101, x102, x103, x104, x105, x106, x107, x108, x109, x110, x111, x112, x113, x114, x115, x116, x117, x118, x119, x120, x121, x122, x123, x124, x125], []⟩ wx) :
    Code.wp Tryz.prog (((Tryz.f10.body.bind (pcBlk 1)).bind (pcAt 7)).getD .skip) Q ⟨#[x0, x1, x2, .slice (some ⟨b, off, none⟩) n c, x4, x5, .pointer (some ⟨g, 0, none⟩), x7, x8, x9, x10, .int .i64 (i : Int), x12, x13, x14, x15, x16, x17, x18, x19, x20, x21, x22, x23, x24, x25, x26, x27, x28, x29, x30, x31, x32, x33, x34, x35, x36, x37, x38, x39, x40, x41, x42, x43, x44, x45, x46, x47, x48, x49, x50, x51, x52, x53, x54, x55, x56, x57, x58, x59, x60, x61, x62, x63, x64, x65, x66, x67, x68, x69, x70, x71, x72, x73, x74, x75, x76, x77, x78, x79, x80, x81, x82, x83, x84, x85, x86, x87, x88, x89, x90, x91, x92, x93, x94, x95, x96, x97, x98, x99, x100, x101, x102, x103, x104, x105, x106, x107, x108, x109, x110, x111, x112, x113, x114, x115, x116, x117, x118, x119, x120, x121, x122, x123, x124, x125], []⟩ W := by
  conv => arg 2; whnf
  have HN : Hid (∀ (z : Bool) (s : Nat) (wx : World) (y52 y53 y54 y55 y56 y57 y58 y59 y60 : Value), (z = true ↔ SumOk x y ∧ SumOk A B ∧ SumOk (A - x) (B - y)) → Below W.heap.size W wx → Q .normal ⟨#[x0, x1, x2, .slice (some ⟨b, off, none⟩) n c, x4, x5, .pointer (some ⟨g, 0, none⟩), x7, x8, x9, x10, .int .i64 (i : Int), .pointer (some ⟨s, 0, none⟩), .bool z, x14, x15, x16, x17, x18, x19, x20, x21, x22, x23, x24, x25, x26, x27, x28, x29, x30, x31, x32, x33, x34, x35, x36, x37, x38, x39, x40, x41, x42, x43, x44, x45, x46, x47, x48, x49, x50, x51, y52, y53, y54, y55, y56, y57, y58, y59, y60, x61, x62, x63, x64, x65, x66, x67, x68, x69, x70, x71, x72, x73, x74, x75, x76, x77, x78, x79, x80, x81, x82, x83, x84, x85, x86, x87, x88, x89, x90, x91, x92, x93, x94, x95, x96, x97, x98, x99, x100, x101, x102, x103, x104, x105, x106, x107, x108, x109, x110, x111, x112, x113, x114, x115, x116, x117, x118, x119, x120, x121, x122, x123, x124, x125], []⟩ wx) := hN
  clear hN
  have hi1 : (i : Int) < (n : Int) := by omega
  have hi0 : (0 : Int) ≤ (i : Int) := by omega
  have HS : Hid (∀ wx, Below W.heap.size W wx → wx.cell? ⟨b, off + i * 2, none⟩ = some (.int .i64 x) ∧ wx.cell? ⟨b, off + i * 2 + 1, none⟩ = some (.int .i64 y) ∧ wx.cell? ⟨g, 0, none⟩ = some (.int .i64 A) ∧ wx.cell? ⟨g, 1, none⟩ = some (.int .i64 B)) := fun wx h => ⟨bkeep h z0 rfl, bkeep h z1 rfl, bkeep h hg.cell.1 rfl, bkeep h hg.cell.2 rfl⟩
  have HC : Hid (∀ wx, Below W.heap.size W wx → Calls Tryz.prog 18 #[.agg #[.int .i64 x, .int .i64 y], .agg #[.int .i64 A, .int .i64 B]] wx fun e w' => ∃ X Y z, e = .returned (.tuple #[.agg #[.int .i64 X, .int .i64 Y], .bool z]) ∧ Hid (z = true ↔ SumOk x y ∧ SumOk A B ∧ SumOk (A - x) (B - y)) ∧ Below W.heap.size W w' ∧ (∀ g', SCell17 wx g' 0 0 → SCell17 w' g' 0 0)) := fun wx h => (r17right_any x y A B wx).mono (fun e w' q => by
    obtain ⟨X, Y, z, rfl, h1, -, h3⟩ := q
    exact ⟨X, Y, z, rfl, h1, bthen h h3, fun g' k => k.below h3⟩)
  clear hg z0 z1 hi
  refine wp_pcOnly ?_
  go_wp2_with fail
  go_region_held3 (fun w' => w'.cell? ⟨b, off + i * 2, none⟩ = some (.int .i64 x) ∧ w'.cell? ⟨b, off + i * 2 + 1, none⟩ = some (.int .i64 y) ∧ w'.cell? ⟨g, 0, none⟩ = some (.int .i64 A) ∧ w'.cell? ⟨g, 1, none⟩ = some (.int .i64 B)) (first | exact HS.out _ (by repeat (first | exact Below.refl _ _ | assumption | refine bdr12 ?_ | refine bgr12 ?_ _ | (refine bst17 ?_ ?_ _; rotate_left; focus (first | (dsimp only; omega) | (simp; done) | (simp; omega) | fail)))) | go_keep | assumption) (first
    | (go_at_call 18; with_reducible refine Calls.mono (HC.out _ (by repeat (first | exact Below.refl _ _ | assumption | refine bdr12 ?_ | refine bgr12 ?_ _ | (refine bst17 ?_ ?_ _; rotate_left; focus (first | (dsimp only; omega) | (simp; done) | (simp; omega) | fail))))) ?_; rintro e w5 ⟨X, Y, z, rfl, hz, b5, k5⟩; have y5 := b5.size; (first | (have T5 : SCell17 w5 W.heap.size 0 0 := k5 _ (SCell17.drew17 (SCell17.new W 0 0)); obtain ⟨C0, C1, F0, F1⟩ := T5) | (have T5 : SCell17 w5 W.heap.size 0 0 := k5 _ (SCell17.new W 0 0); obtain ⟨C0, C1, F0, F1⟩ := T5) | skip))
    | fail)
  all_goals
    exact HN.out _ _ _ _ _ _ _ _ _ _ _ _ hz.out (by repeat (first | exact Below.refl _ _ | assumption | refine bdr12 ?_ | refine bgr12 ?_ _ | (refine bst17 ?_ ?_ _; rotate_left; focus (first | (dsimp only; omega) | (simp; done) | (simp; omega) | fail))))

set_option maxRecDepth 100000 in
set_option maxHeartbeats 12800000 in
theorem bx_p8 {x0 x1 x2 x3 x4 x5 x6 x7 x8 x9 x10 x11 x12 x14 x15 x16 x17 x18 x19 x20 x21 x22 x23 x24 x25 x26 x27 x28 x29 x30 x31 x32 x33 x34 x35 x36 x37 x38 x39 x40 x41 x42 x43 x44 x45 x46 x47 x48 x49 x50 x51 x52 x53 x54 x55 x56 x57 x58 x59 x60 x61 x62 x63 x64 x65 x66 x67 x68 x69 x70 x71 x72 x73 x74 x75 x76 x77 x78 x79 x80 x81 x82 x83 x84 x85 x86 x87 x88 x89 x90 x91 x92 x93 x94 x95 x96 x97 x98 x99 x100 x101 x102 x103 x104 x105 x106 x107 x108 x109 x110 x111 x112 x113 x114 x115 x116 x117 x118 x119 x120 x121 x122 x123 x124 x125 : Value} {Q : Exit → Act → World → Prop} {W : World} {z : Bool} 
    (hN : ∀ (y8 y9 y61 y62 : Value), z = true → Q .normal ⟨#[x0, x1, x2, x3, x4, x5, x6, x7, y8, y9, x10, x11, x12, .bool z, x14, x15, x16, x17, x18, x19, x20, x21, x22, x23, x24, x25, x26, x27, x28, x29, x30, x31, x32, x33, x34, x35, x36, x37, x38, x39, x40, x41, x42, x43, x44, x45, x46, x47, x48, x49, x50, x51, x52, x53, x54, x55, x56, x57, x58, x59, x60, y61, y62, x63, x64, x65, x66, x67, x68, x69, x70, x71, x72, x73, x74, x75, x76, x77, x78, x79, x80, x81, x82, x83, x84, x85, x86, x87, x88, x89, x90, x91, x92, x93, x94, x95, x96, x97, x98, x99, x100, x101, x102, x103, x104, x105, x106, x107, x108, x109, x110, x111, x112, x113, x114, x115, x116, x117, x118, x119, x120, x121, x122, x123, x124, x125], []⟩ W)
    (hR : ∀ (y61 y62 : Value), z = false → Q .ret ⟨#[x0, x1, x2, x3, x4, x5, x6, x7, .slice none 0 0, .int .i64 1, x10, x11, x12, .bool z, x14, x15, x16, x17, x18, x19, x20, x21, x22, x23, x24, x25, x26, x27, x28, x29, x30, x31, x32, x33, x34, x35, x36, x37, x38, x39, x40, x41, x42, x43, x44, x45, x46, x47, x48, x49, x50, x51, x52, x53, x54, x55, x56, x57, x58, x59, x60, y61, y62, x63, x64, x65, x66, x67, x68, x69, x70, x71, x72, x73, x74, x75, x76, x77, x78, x79, x80, x81, x82, x83, x84, x85, x86, x87, x88, x89, x90, x91, x92, x93, x94, x95, x96, x97, x98, x99, x100, x101, x102, x103, x104, x105, x106, x107, x108, x109, x110, x111, x112, x113, x114, x115, x116, x117, x118, x119, x120, x121, x122, x123, x124, x125], []⟩ W) :
    Code.wp Tryz.prog (((Tryz.f10.body.bind (pcBlk 1)).bind (pcFrom 8)).getD .skip) Q ⟨#[x0, x1, x2, x3, x4, x5, x6, x7, x8, x9, x10, x11, x12, .bool z, x14, x15, x16, x17, x18, x19, x20, x21, x22, x23, x24, x25, x26, x27, x28, x29, x30, x31, x32, x33, x34, x35, x36, x37, x38, x39, x40, x41, x42, x43, x44, x45, x46, x47, x48, x49, x50, x51, x52, x53, x54, x55, x56, x57, x58, x59, x60, x61, x62, x63, x64, x65, x66, x67, x68, x69, x70, x71, x72, x73, x74, x75, x76, x77, x78, x79, x80, x81, x82, x83, x84, x85, x86, x87, x88, x89, x90, x91, x92, x93, x94, x95, x96, x97, x98, x99, x100, x101, x102, x103, x104, x105, x106, x107, x108, x109, x110, x111, x112, x113, x114, x115, x116, x117, x118, x119, x120, x121, x122, x123, x124, x125], []⟩ W := by
  conv => arg 2; whnf
  have HN : Hid (∀ (y8 y9 y61 y62 : Value), z = true → Q .normal ⟨#[x0, x1, x2, x3, x4, x5, x6, x7, y8, y9, x10, x11, x12, .bool z, x14, x15, x16, x17, x18, x19, x20, x21, x22, x23, x24, x25, x26, x27, x28, x29, x30, x31, x32, x33, x34, x35, x36, x37, x38, x39, x40, x41, x42, x43, x44, x45, x46, x47, x48, x49, x50, x51, x52, x53, x54, x55, x56, x57, x58, x59, x60, y61, y62, x63, x64, x65, x66, x67, x68, x69, x70, x71, x72, x73, x74, x75, x76, x77, x78, x79, x80, x81, x82, x83, x84, x85, x86, x87, x88, x89, x90, x91, x92, x93, x94, x95, x96, x97, x98, x99, x100, x101, x102, x103, x104, x105, x106, x107, x108, x109, x110, x111, x112, x113, x114, x115, x116, x117, x118, x119, x120, x121, x122, x123, x124, x125], []⟩ W) := hN
  have HR : Hid (∀ (y61 y62 : Value), z = false → Q .ret ⟨#[x0, x1, x2, x3, x4, x5, x6, x7, .slice none 0 0, .int .i64 1, x10, x11, x12, .bool z, x14, x15, x16, x17, x18, x19, x20, x21, x22, x23, x24, x25, x26, x27, x28, x29, x30, x31, x32, x33, x34, x35, x36, x37, x38, x39, x40, x41, x42, x43, x44, x45, x46, x47, x48, x49, x50, x51, x52, x53, x54, x55, x56, x57, x58, x59, x60, y61, y62, x63, x64, x65, x66, x67, x68, x69, x70, x71, x72, x73, x74, x75, x76, x77, x78, x79, x80, x81, x82, x83, x84, x85, x86, x87, x88, x89, x90, x91, x92, x93, x94, x95, x96, x97, x98, x99, x100, x101, x102, x103, x104, x105, x106, x107, x108, x109, x110, x111, x112, x113, x114, x115, x116, x117, x118, x119, x120, x121, x122, x123, x124, x125], []⟩ W) := hR
  clear hN hR
  cases z with
  | false =>
    clear HN
    go_wp2_with fail
    exact HR.out  _ _ (by trivial)
  | true =>
    clear HR
    go_wp2_with fail
    exact HN.out  _ _ _ _ (by trivial)

set_option maxRecDepth 100000 in
set_option maxHeartbeats 12800000 in
theorem bx_l1 {x0 x1 x2 x4 x5 x7 x8 x9 x10 x11 x12 x13 x14 x15 x16 x17 x18 x19 x20 x21 x22 x23 x24 x25 x26 x27 x28 x29 x30 x31 x32 x33 x34 x35 x36 x37 x38 x39 x40 x41 x42 x43 x44 x45 x46 x47 x48 x49 x50 x51 x52 x53 x54 x55 x56 x57 x58 x59 x60 x61 x62 x63 x64 x65 x66 x67 x68 x69 x70 x71 x72 x73 x74 x75 x76 x77 x78 x79 x80 x81 x82 x83 x84 x85 x86 x87 x88 x89 x90 x91 x92 x93 x94 x95 x96 x97 x98 x99 x100 x101 x102 x103 x104 x105 x106 x107 x108 x109 x110 x111 x112 x113 x114 x115 x116 x117 x118 x119 x120 x121 x122 x123 x124 x125 : Value} {Q : Exit → Act → World → Prop} {W : World} {g n c : Nat} {a : Option Addr} {A B : Int} {ss : List (Int × Int)} (hg : SVar W g A B) (h : SRows W a n c ss) (hAB : SumOk A B)
    (hN : ∀ (wx : World) (y8 y9 y11 y12 y13 y46 y47 y48 y49 y50 y51 y52 y53 y54 y55 y56 y57 y58 y59 y60 y61 y62 : Value), (∀ i, i < n → SumOk (ss.getD i (0, 0)).1 (ss.getD i (0, 0)).2 ∧ SumOk (A - (ss.getD i (0, 0)).1) (B - (ss.getD i (0, 0)).2)) → Below W.heap.size W wx → Q .normal ⟨#[x0, x1, x2, .slice a n c, x4, x5, .pointer (some ⟨g, 0, none⟩), x7, y8, y9, x10, y11, y12, y13, x14, x15, x16, x17, x18, x19, x20, x21, x22, x23, x24, x25, x26, x27, x28, x29, x30, x31, x32, x33, x34, x35, x36, x37, x38, x39, x40, x41, x42, x43, x44, x45, y46, y47, y48, y49, y50, y51, y52, y53, y54, y55, y56, y57, y58, y59, y60, y61, y62, x63, x64, x65, x66, x67, x68, x69, x70, x71, x72, x73, x74, x75, x76, x77, x78, x79, x80, x81, x82, x83, x84, x85, x86, x87, x88, x89, x90, x91, x92, x93, x94, x95, x96, x97, x98, x99, x100, x101, x102, x103, x104, x105, x106, x107, x108, x109, x110, x111, x112, x113, x114, x115, x116, x117, x118, x119, x120, x121, x122, x123, x124, x125], []⟩ wx)
    (hR : ∀ (wx : World) (y11 y12 y13 y46 y47 y48 y49 y50 y51 y52 y53 y54 y55 y56 y57 y58 y59 y60 y61 y62 : Value), ¬ (∀ i, i < n → SumOk (ss.getD i (0, 0)).1 (ss.getD i (0, 0)).2 ∧ SumOk (A - (ss.getD i (0, 0)).1) (B - (ss.getD i (0, 0)).2)) → Below W.heap.size W wx → Q .ret ⟨#[x0, x1, x2, .slice a n c, x4, x5, .pointer (some ⟨g, 0, none⟩), x7, .slice none 0 0, .int .i64 1, x10, y11, y12, y13, x14, x15, x16, x17, x18, x19, x20, x21, x22, x23, x24, x25, x26, x27, x28, x29, x30, x31, x32, x33, x34, x35, x36, x37, x38, x39, x40, x41, x42, x43, x44, x45, y46, y47, y48, y49, y50, y51, y52, y53, y54, y55, y56, y57, y58, y59, y60, y61, y62, x63, x64, x65, x66, x67, x68, x69, x70, x71, x72, x73, x74, x75, x76, x77, x78, x79, x80, x81, x82, x83, x84, x85, x86, x87, x88, x89, x90, x91, x92, x93, x94, x95, x96, x97, x98, x99, x100, x101, x102, x103, x104, x105, x106, x107, x108, x109, x110, x111, x112, x113, x114, x115, x116, x117, x118, x119, x120, x121, x122, x123, x124, x125], []⟩ wx) :
    Code.wp Tryz.prog ((Tryz.f10.body.bind (pcAt 4)).getD .skip) Q ⟨#[x0, x1, x2, .slice a n c, x4, x5, .pointer (some ⟨g, 0, none⟩), x7, x8, x9, x10, x11, x12, x13, x14, x15, x16, x17, x18, x19, x20, x21, x22, x23, x24, x25, x26, x27, x28, x29, x30, x31, x32, x33, x34, x35, x36, x37, x38, x39, x40, x41, x42, x43, x44, x45, x46, x47, x48, x49, x50, x51, x52, x53, x54, x55, x56, x57, x58, x59, x60, x61, x62, x63, x64, x65, x66, x67, x68, x69, x70, x71, x72, x73, x74, x75, x76, x77, x78, x79, x80, x81, x82, x83, x84, x85, x86, x87, x88, x89, x90, x91, x92, x93, x94, x95, x96, x97, x98, x99, x100, x101, x102, x103, x104, x105, x106, x107, x108, x109, x110, x111, x112, x113, x114, x115, x116, x117, x118, x119, x120, x121, x122, x123, x124, x125], []⟩ W := by
  conv => arg 2; whnf
  have HN : Hid (∀ (wx : World) (y8 y9 y11 y12 y13 y46 y47 y48 y49 y50 y51 y52 y53 y54 y55 y56 y57 y58 y59 y60 y61 y62 : Value), (∀ i, i < n → SumOk (ss.getD i (0, 0)).1 (ss.getD i (0, 0)).2 ∧ SumOk (A - (ss.getD i (0, 0)).1) (B - (ss.getD i (0, 0)).2)) → Below W.heap.size W wx → Q .normal ⟨#[x0, x1, x2, .slice a n c, x4, x5, .pointer (some ⟨g, 0, none⟩), x7, y8, y9, x10, y11, y12, y13, x14, x15, x16, x17, x18, x19, x20, x21, x22, x23, x24, x25, x26, x27, x28, x29, x30, x31, x32, x33, x34, x35, x36, x37, x38, x39, x40, x41, x42, x43, x44, x45, y46, y47, y48, y49, y50, y51, y52, y53, y54, y55, y56, y57, y58, y59, y60, y61, y62, x63, x64, x65, x66, x67, x68, x69, x70, x71, x72, x73, x74, x75, x76, x77, x78, x79, x80, x81, x82, x83, x84, x85, x86, x87, x88, x89, x90, x91, x92, x93, x94, x95, x96, x97, x98, x99, x100, x101, x102, x103, x104, x105, x106, x107, x108, x109, x110, x111, x112, x113, x114, x115, x116, x117, x118, x119, x120, x121, x122, x123, x124, x125], []⟩ wx) := hN
  have HR : Hid (∀ (wx : World) (y11 y12 y13 y46 y47 y48 y49 y50 y51 y52 y53 y54 y55 y56 y57 y58 y59 y60 y61 y62 : Value), ¬ (∀ i, i < n → SumOk (ss.getD i (0, 0)).1 (ss.getD i (0, 0)).2 ∧ SumOk (A - (ss.getD i (0, 0)).1) (B - (ss.getD i (0, 0)).2)) → Below W.heap.size W wx → Q .ret ⟨#[x0, x1, x2, .slice a n c, x4, x5, .pointer (some ⟨g, 0, none⟩), x7, .slice none 0 0, .int .i64 1, x10, y11, y12, y13, x14, x15, x16, x17, x18, x19, x20, x21, x22, x23, x24, x25, x26, x27, x28, x29, x30, x31, x32, x33, x34, x35, x36, x37, x38, x39, x40, x41, x42, x43, x44, x45, y46, y47, y48, y49, y50, y51, y52, y53, y54, y55, y56, y57, y58, y59, y60, y61, y62, x63, x64, x65, x66, x67, x68, x69, x70, x71, x72, x73, x74, x75, x76, x77, x78, x79, x80, x81, x82, x83, x84, x85, x86, x87, x88, x89, x90, x91, x92, x93, x94, x95, x96, x97, x98, x99, x100, x101, x102, x103, x104, x105, x106, x107, x108, x109, x110, x111, x112, x113, x114, x115, x116, x117, x118, x119, x120, x121, x122, x123, x124, x125], []⟩ wx) := hR
  clear hN hR
  have hm := h.hmax
  have hc := h.hcap
  unfold maxLen at hm
  refine pcSeq (fun Q1 n1 r1 _ => ?_)
  go_wp2_with fail
  refine n1 _ _ (pcBlock (fun Q2 n2 e2 r2 => ?_))
  go_loopw [11] (fun v11 wr => ∃ i : Nat, v11 = .int .i64 (i : Int) ∧ i ≤ n ∧ (∀ j, j < i → SumOk (ss.getD j (0, 0)).1 (ss.getD j (0, 0)).2 ∧ SumOk (A - (ss.getD j (0, 0)).1) (B - (ss.getD j (0, 0)).2)) ∧ Below W.heap.size W wr) (fun v11 _ => n - (intOf v11).toNat)
  case atStart => exact ⟨0, rfl, Nat.zero_le _, fun j hj => absurd hj (by omega), Below.refl _ _⟩
  case round =>
    obtain ⟨i, rfl, hi, hall, hb⟩ := hrel
    refine pcSeq (fun Q3 n3 r3 e3 => bx_t5 hi ?_ ?_)
    · intros
      rename_i hlt
      refine n3 _ _ (pcSeq (fun Q4 n4 r4 e4 => pcBlock (fun Q5 n5 e5 r5 => ?_)))
      obtain ⟨b, off, x, y, rfl, z0, z1, hxy⟩ := (h.below hb).at hlt
      refine pcSeq (fun Q6 n6 r6 e6 => bx_p7 (hg.below hb) z0 z1 hlt ?_)
      intro z s wx
      intros
      rename_i hz hbx
      refine n6 _ _ (bx_p8 ?_ ?_)
      · intros
        rename_i hzt
        have h2 := hz.1 hzt
        refine n5 _ _ (n4 _ _ (bx_p6 (by omega) ?_))
        intros
        dsimp only [Exit.then]
        go_roundw
        case rel => exact ⟨i + 1, by go_num, hlt, fun j hj => by
          by_cases e : j = i
          · rw [e, hxy]; exact ⟨h2.1, h2.2.2⟩
          · exact hall j (by omega), bthen hb hbx⟩
        case measure => simp [intOf]; omega
      · intros
        rename_i hzf
        have hno : ¬ (∀ i, i < n → SumOk (ss.getD i (0, 0)).1 (ss.getD i (0, 0)).2 ∧ SumOk (A - (ss.getD i (0, 0)).1) (B - (ss.getD i (0, 0)).2)) := fun q => by
          have h2 := q i hlt
          rw [hxy] at h2
          have := hz.2 ⟨h2.1, hAB, h2.2⟩
          rw [hzf] at this
          cases this
        exact r5 _ _ (r4 _ _ (r2 _ _ (HR.out _ _ _ _ _ _ _ _ _ _ _ _ _ _ _ _ _ _ _ _ _ hno (bthen hb hbx))))
    · intros
      rename_i he
      subst he
      exact e3 _ _ _ (e2 _ _ (HN.out _ _ _ _ _ _ _ _ _ _ _ _ _ _ _ _ _ _ _ _ _ _ _ hall hb))

end Go.Proofs.YtchmlfjjgehbkaaGreat

namespace Go.Proofs.YtchmlfjjgehbkaaGreat
open Go.RowKit

attribute [local go_sem] run_mag17
theorem IOwn.low17 {w w' : World} {base : Nat} {v : Value} {xs : List Int} (h : IOwn w base v xs) (hg : w.grownBy w' v.ownBlock) (hb : base ≤ w.heap.size) : Below base w w' :=
  ⟨hg.os, hg.tape, hg.output, hg.size, fun k hk => hg.block k (Nat.lt_of_lt_of_le hk hb) (fun e => by have := (World.ownsRow.lt h k e.symm).1; omega)⟩
/-- A fraction that is far from the limit. -/
def Fit17 (q : Q17) : Prop := 0 < q.2 ∧ q.1.natAbs < 18446744073709551616 ^ 16 ∧ q.2 < 18446744073709551616 ^ 16
theorem Cell3.drew17 {w : World} {g : Nat} {p : Bool} {a b : Option Addr} {l c l' c' : Nat} (h : Cell3 w g p a l c b l' c') : Cell3 w.drew g p a l c b l' c' := ⟨h.c0, h.c1, h.c2, h.f0, h.f1, h.f2⟩
theorem FrAt17.put17 {w : World} {m : Bool} {p : Option Addr} {l c : Nat} {p' : Option Addr} {l' c' : Nat} {q : Q17} (h : FrAt17 w m p l c p' l' c' q) {g : Nat} {x : Bool} {a b : Option Addr} {k1 n1 k2 n2 : Nat} (hg : Cell3 w g x a k1 n1 b k2 n2) {u v z : Value} : FrAt17 (((w.setCell ⟨g, 0, none⟩ u).setCell ⟨g, 1, none⟩ v).setCell ⟨g, 2, none⟩ z) m p l c p' l' c' q := by
  obtain ⟨us, vs, h1, h2, h3⟩ := h
  exact ⟨us, vs, Nums.put3 hg h1 _ _ _, Nums.put3 hg h2 _ _ _, h3⟩
set_option maxRecDepth 100000 in
set_option maxHeartbeats 12800000 in
theorem bx_p10 {x0 x2 x3 x4 x5 x6 x7 x8 x9 x10 x11 x12 x13 x14 x15 x16 x17 x18 x19 x20 x21 x22 x23 x24 x25 x26 x27 x28 x29 x30 x31 x32 x33 x34 x35 x36 x37 x38 x39 x40 x41 x42 x43 x44 x45 x46 x47 x48 x49 x50 x51 x52 x53 x54 x55 x56 x57 x58 x59 x60 x61 x62 x63 x64 x65 x66 x67 x68 x69 x70 x71 x72 x73 x74 x75 x76 x77 x78 x79 x80 x81 x82 x83 x84 x85 x86 x87 x88 x89 x90 x91 x92 x93 x94 x95 x96 x97 x98 x99 x100 x101 x102 x103 x104 x105 x106 x107 x108 x109 x110 x111 x112 x113 x114 x115 x116 x117 x118 x119 x120 x121 x122 x123 x124 x125 : Value} {Q : Exit → Act → World → Prop} {W : World} {γ : Int} (hγ : 0 ≤ γ ∧ γ ≤ 1048576)
    (hN : ∀ (m : Bool) (p : Option Addr) (k n0 : Nat) (p' : Option Addr) (k' n0' : Nat) (s : Nat) (wx : World) (y15 y63 y64 y65 y66 y67 y68 y69 y70 : Value), Cell3 wx s m p k n0 p' k' n0' → FrAt17 wx m p k n0 p' k' n0' (γ, 1) → W.heap.size ≤ s → Below W.heap.size W wx → Q .normal ⟨#[x0, .int .i64 γ, x2, x3, x4, x5, x6, x7, x8, x9, x10, x11, x12, x13, .pointer (some ⟨s, 0, none⟩), y15, x16, x17, x18, x19, x20, x21, x22, x23, x24, x25, x26, x27, x28, x29, x30, x31, x32, x33, x34, x35, x36, x37, x38, x39, x40, x41, x42, x43, x44, x45, x46, x47, x48, x49, x50, x51, x52, x53, x54, x55, x56, x57, x58, x59, x60, x61, x62, y63, y64, y65, y66, y67, y68, y69, y70, x71, x72, x73, x74, x75, x76, x77, x78, x79, x80, x81, x82, x83, x84, x85, x86, x87, x88, x89, x90, x91, x92, x93, x94, x95, x96, x97, x98, x99, x100, x101, x102, x103, x104, x105, x106, x107, x108, x109, x110, x111, x112, x113, x114, x115, x116, x117, x118, x119, x120, x121, x122, x123, x124, x125], []⟩ wx) :
    Code.wp Tryz.prog ((Tryz.f10.body.bind (pcAt 10)).getD .skip) Q ⟨#[x0, .int .i64 γ, x2, x3, x4, x5, x6, x7, x8, x9, x10, x11, x12, x13, x14, x15, x16, x17, x18, x19, x20, x21, x22, x23, x24, x25, x26, x27, x28, x29, x30, x31, x32, x33, x34, x35, x36, x37, x38, x39, x40, x41, x42, x43, x44, x45, x46, x47, x48, x49, x50, x51, x52, x53, x54, x55, x56, x57, x58, x59, x60, x61, x62, x63, x64, x65, x66, x67, x68, x69, x70, x71, x72, x73, x74, x75, x76, x77, x78, x79, x80, x81, x82, x83, x84, x85, x86, x87, x88, x89, x90, x91, x92, x93, x94, x95, x96, x97, x98, x99, x100, x101, x102, x103, x104, x105, x106, x107, x108, x109, x110, x111, x112, x113, x114, x115, x116, x117, x118, x119, x120, x121, x122, x123, x124, x125], []⟩ W := by
  conv => arg 2; whnf
  have HN : Hid (∀ (m : Bool) (p : Option Addr) (k n0 : Nat) (p' : Option Addr) (k' n0' : Nat) (s : Nat) (wx : World) (y15 y63 y64 y65 y66 y67 y68 y69 y70 : Value), Cell3 wx s m p k n0 p' k' n0' → FrAt17 wx m p k n0 p' k' n0' (γ, 1) → W.heap.size ≤ s → Below W.heap.size W wx → Q .normal ⟨#[x0, .int .i64 γ, x2, x3, x4, x5, x6, x7, x8, x9, x10, x11, x12, x13, .pointer (some ⟨s, 0, none⟩), y15, x16, x17, x18, x19, x20, x21, x22, x23, x24, x25, x26, x27, x28, x29, x30, x31, x32, x33, x34, x35, x36, x37, x38, x39, x40, x41, x42, x43, x44, x45, x46, x47, x48, x49, x50, x51, x52, x53, x54, x55, x56, x57, x58, x59, x60, x61, x62, y63, y64, y65, y66, y67, y68, y69, y70, x71, x72, x73, x74, x75, x76, x77, x78, x79, x80, x81, x82, x83, x84, x85, x86, x87, x88, x89, x90, x91, x92, x93, x94, x95, x96, x97, x98, x99, x100, x101, x102, x103, x104, x105, x106, x107, x108, x109, x110, x111, x112, x113, x114, x115, x116, x117, x118, x119, x120, x121, x122, x123, x124, x125], []⟩ wx) := hN
  clear hN
  have b1 : -9223372036854775808 ≤ γ ∧ γ < 9223372036854775808 := by omega
  have b2 : -9223372036854775808 ≤ (1 : Int) ∧ (1 : Int) < 9223372036854775808 := by decide
  have hwG : IntKind.i64.wrap γ = γ := by rw [IntKind.wrap_i64]; omega
  have HO1 := (show Hid _ from refIOf_any γ W b1)
  have HG : Hid (0 ≤ γ ∧ γ ≤ 1048576) := hγ
  have HW1 : Hid (IsW (decide (γ < 0)) (ofZ (sz γ)) γ) := IsW.of b1
  have HW2 : Hid (IsW (decide ((1 : Int) < 0)) (ofZ (sz 1)) 1) := IsW.of b2
  obtain ⟨sg, hsg⟩ : ∃ sg, sg = decide (γ < 0) := ⟨_, rfl⟩
  rw [← hsg] at HO1 HW1
  clear hγ b1 hsg
  go_wp2_with fail
  refine Calls.mono HO1.out ?_
  rintro e w1 ⟨a1, n1, c1, rfl, hn1, hb1⟩
  have HO2 := (show Hid _ from refIOf_any 1 w1 b2)
  obtain ⟨tg, htg⟩ : ∃ tg, tg = decide ((1 : Int) < 0) := ⟨_, rfl⟩
  rw [← htg] at HO2 HW2
  have HN1 : Hid (Nums w1 a1 n1 c1 (ofZ (sz γ)) ∧ Below W.heap.size W w1) := ⟨hn1, hb1⟩
  clear HO1 hn1 hb1 htg b2
  go_wp2_with fail
  refine Calls.mono HO2.out ?_
  rintro e w2 ⟨a2, n2, c2, rfl, hn2, hb2⟩
  have hmk := r8make_any sg _ _ _ _ _ _ _ _ w2 (HN1.out.1.below hb2) hn2
  have e1 : iv sg (ofZ (sz γ)) = γ := HW1.out.2.2
  have e2 : nv (ofZ (sz 1)) = 1 := HW2.out.mag.nv
  have e3 : makeFF sg (ofZ (sz γ)) (ofZ (sz 1)) = none := by
    unfold makeFF
    rw [HW1.out.2.1, HW2.out.right, e1, e2]
    exact makF_small17 Nat.one_pos (by have := HG.out; exact Nat.lt_of_le_of_lt (show γ.natAbs ≤ 1048576 by omega) (by decide)) (by decide)
  rw [e3, e1, e2] at hmk
  have HM := (show Hid _ from hmk)
  have HB2 : Hid (Below W.heap.size W w2) := bthen HN1.out.2 hb2
  clear HO2 HN1 HW1 HW2 hn2 hb2 hmk e1 e2 e3
  go_wp2_with fail
  refine Calls.mono HM.out ?_
  intro e w3 hh
  obtain ⟨m, p, k, n0, p', k', n0', rfl, hF, hb⟩ := FT17.ok (P := True) (q := (γ, 1)) ⟨fun _ => hh, fun e => absurd trivial e⟩ trivial
  have hb' := bthen HB2.out hb
  have HK : Hid (Cell3 (w3.alloc (.cells #[.bool m, .slice p k n0, .slice p' k' n0'] 30)) w3.heap.size m p k n0 p' k' n0' ∧ FrAt17 (w3.alloc (.cells #[.bool m, .slice p k n0, .slice p' k' n0'] 30)) m p k n0 p' k' n0' (γ, 1) ∧ W.heap.size ≤ w3.heap.size ∧ Below W.heap.size W (w3.alloc (.cells #[.bool m, .slice p k n0, .slice p' k' n0'] 30))) := ⟨Cell3.new w3 m p p' k n0 k' n0', hF.below (balloc _ _), hb'.size, bthen hb' (balloc _ _)⟩
  clear HM HB2 HG hh hF hb hb' hwG
  dsimp only
  go_wp2_with fail
  exact HN.out _ _ _ _ _ _ _ _ _ _ _ _ _ _ _ _ _ _ HK.out.1 HK.out.2.1 HK.out.2.2.1 HK.out.2.2.2

set_option maxRecDepth 100000 in
set_option maxHeartbeats 12800000 in
theorem bx_p15 {x0 x1 x2 x4 x5 x7 x8 x9 x10 x11 x12 x13 x14 x15 x16 x18 x19 x20 x21 x22 x23 x24 x25 x26 x27 x28 x29 x30 x31 x32 x33 x34 x35 x36 x37 x38 x39 x40 x41 x42 x43 x44 x45 x46 x47 x48 x49 x50 x51 x52 x53 x54 x55 x56 x57 x58 x59 x60 x61 x62 x63 x64 x65 x66 x67 x68 x69 x70 x71 x72 x73 x74 x75 x76 x77 x78 x79 x80 x81 x82 x83 x84 x85 x86 x87 x88 x89 x90 x91 x92 x93 x94 x95 x96 x97 x98 x99 x100 x101 x102 x103 x104 x105 x106 x107 x108 x109 x110 x111 x112 x113 x114 x115 x116 x117 x118 x119 x120 x121 x122 x123 x124 x125 : Value} {Q : Exit → Act → World → Prop} {W : World} {g b off n c i : Nat} {A B y : Int} (hg : SVar W g A B) (z1 : W.cell? ⟨b, off + i * 2 + 1, none⟩ = some (.int .i64 y)) (hi : i < n) (hB : 0 ≤ B ∧ B ≤ 1048576) (hy : 0 ≤ y ∧ y ≤ 1048576)
    (hN : ∀ (wx : World) (y77 y78 y79 y80 y81 y82 y83 y84 y85 y86 y87 y88 y89 y90 y91 y92 y93 : Value), (1 ≤ y ∧ 1 ≤ B - y) → Below W.heap.size W wx → Q .normal ⟨#[x0, x1, x2, .slice (some ⟨b, off, none⟩) n c, x4, x5, .pointer (some ⟨g, 0, none⟩), x7, x8, x9, x10, x11, x12, x13, x14, x15, x16, .int .i64 (i : Int), x18, x19, x20, x21, x22, x23, x24, x25, x26, x27, x28, x29, x30, x31, x32, x33, x34, x35, x36, x37, x38, x39, x40, x41, x42, x43, x44, x45, x46, x47, x48, x49, x50, x51, x52, x53, x54, x55, x56, x57, x58, x59, x60, x61, x62, x63, x64, x65, x66, x67, x68, x69, x70, x71, x72, x73, x74, x75, x76, y77, y78, y79, y80, y81, y82, y83, y84, y85, y86, y87, y88, y89, y90, y91, y92, y93, x94, x95, x96, x97, x98, x99, x100, x101, x102, x103, x104, x105, x106, x107, x108, x109, x110, x111, x112, x113, x114, x115, x116, x117, x118, x119, x120, x121, x122, x123, x124, x125], []⟩ wx)
    (hE : ∀ (wx : World) (y77 y78 y79 y80 y81 y82 y83 y84 y85 y86 y87 y88 y89 y90 y91 y92 y93 : Value), ¬ (1 ≤ y ∧ 1 ≤ B - y) → Below W.heap.size W wx → Q (.exit 3) ⟨#[x0, x1, x2, .slice (some ⟨b, off, none⟩) n c, x4, x5, .pointer (some ⟨g, 0, none⟩), x7, x8, x9, x10, x11, x12, x13, x14, x15, x16, .int .i64 (i : Int), x18, x19, x20, x21, x22, x23, x24, x25, x26, x27, x28, x29, x30, x31, x32, x33, x34, x35, x36, x37, x38, x39, x40, x41, x42, x43, x44, x45, x46, x47, x48, x49, x50, x51, x52, x53, x54, x55, x56, x57, x58, x59, x60, x61, x62, x63, x64, x65, x66, x67, x68, x69, x70, x71, x72, x73, x74, x75, x76, y77, y78, y79, y80, y81, y82, y83, y84, y85, y86, y87, y88, y89, y90, y91, y92, y93, x94, x95, x96, x97, x98, x99, x100, x101, x102, x103, x104, x105, x106, x107, x108, x109, x110, x111, x112, x113, x114, x115, x116, x117, x118, x119, x120, x121, x122, x123, x124, x125], []⟩ wx) :
    Code.wp Tryz.prog (((Tryz.f10.body.bind (pcBlk 3)).bind (pcAt 15)).getD .skip) Q ⟨#[x0, x1, x2, .slice (some ⟨b, off, none⟩) n c, x4, x5, .pointer (some ⟨g, 0, none⟩), x7, x8, x9, x10, x11, x12, x13, x14, x15, x16, .int .i64 (i : Int), x18, x19, x20, x21, x22, x23, x24, x25, x26, x27, x28, x29, x30, x31, x32, x33, x34, x35, x36, x37, x38, x39, x40, x41, x42, x43, x44, x45, x46, x47, x48, x49, x50, x51, x52, x53, x54, x55, x56, x57, x58, x59, x60, x61, x62, x63, x64, x65, x66, x67, x68, x69, x70, x71, x72, x73, x74, x75, x76, x77, x78, x79, x80, x81, x82, x83, x84, x85, x86, x87, x88, x89, x90, x91, x92, x93, x94, x95, x96, x97, x98, x99, x100, x101, x102, x103, x104, x105, x106, x107, x108, x109, x110, x111, x112, x113, x114, x115, x116, x117, x118, x119, x120, x121, x122, x123, x124, x125], []⟩ W := by
  conv => arg 2; whnf
  have HN : Hid (∀ (wx : World) (y77 y78 y79 y80 y81 y82 y83 y84 y85 y86 y87 y88 y89 y90 y91 y92 y93 : Value), (1 ≤ y ∧ 1 ≤ B - y) → Below W.heap.size W wx → Q .normal ⟨#[x0, x1, x2, .slice (some ⟨b, off, none⟩) n c, x4, x5, .pointer (some ⟨g, 0, none⟩), x7, x8, x9, x10, x11, x12, x13, x14, x15, x16, .int .i64 (i : Int), x18, x19, x20, x21, x22, x23, x24, x25, x26, x27, x28, x29, x30, x31, x32, x33, x34, x35, x36, x37, x38, x39, x40, x41, x42, x43, x44, x45, x46, x47, x48, x49, x50, x51, x52, x53, x54, x55, x56, x57, x58, x59, x60, x61, x62, x63, x64, x65, x66, x67, x68, x69, x70, x71, x72, x73, x74, x75, x76, y77, y78, y79, y80, y81, y82, y83, y84, y85, y86, y87, y88, y89, y90, y91, y92, y93, x94, x95, x96, x97, x98, x99, x100, x101, x102, x103, x104, x105, x106, x107, x108, x109, x110, x111, x112, x113, x114, x115, x116, x117, x118, x119, x120, x121, x122, x123, x124, x125], []⟩ wx) := hN
  have HE : Hid (∀ (wx : World) (y77 y78 y79 y80 y81 y82 y83 y84 y85 y86 y87 y88 y89 y90 y91 y92 y93 : Value), ¬ (1 ≤ y ∧ 1 ≤ B - y) → Below W.heap.size W wx → Q (.exit 3) ⟨#[x0, x1, x2, .slice (some ⟨b, off, none⟩) n c, x4, x5, .pointer (some ⟨g, 0, none⟩), x7, x8, x9, x10, x11, x12, x13, x14, x15, x16, .int .i64 (i : Int), x18, x19, x20, x21, x22, x23, x24, x25, x26, x27, x28, x29, x30, x31, x32, x33, x34, x35, x36, x37, x38, x39, x40, x41, x42, x43, x44, x45, x46, x47, x48, x49, x50, x51, x52, x53, x54, x55, x56, x57, x58, x59, x60, x61, x62, x63, x64, x65, x66, x67, x68, x69, x70, x71, x72, x73, x74, x75, x76, y77, y78, y79, y80, y81, y82, y83, y84, y85, y86, y87, y88, y89, y90, y91, y92, y93, x94, x95, x96, x97, x98, x99, x100, x101, x102, x103, x104, x105, x106, x107, x108, x109, x110, x111, x112, x113, x114, x115, x116, x117, x118, x119, x120, x121, x122, x123, x124, x125], []⟩ wx) := hE
  clear hN hE
  have hi1 : (i : Int) < (n : Int) := by omega
  have hi0 : (0 : Int) ≤ (i : Int) := by omega
  have c1 := hg.cell.2
  have HB : Hid (∀ n, Below W.heap.size W (W.drewN n)) := fun n => below_drewN (Below.refl _ W) n
  obtain ⟨d, hd⟩ : ∃ d, d = B - y := ⟨_, rfl⟩
  have hs : B - y = d := hd.symm
  have hwd : IntKind.i64.wrap d = d := by rw [IntKind.wrap_i64]; omega
  have hw2 : RowKit.wrap64 d = d := by unfold RowKit.wrap64; omega
  by_cases q1 : y < 1
  · have d1 : decide (y < 1) = true := decide_eq_true q1
    have HX : Hid (¬ (1 ≤ y ∧ 1 ≤ d)) := fun e => by omega
    rw [hs] at HE HN
    clear HN q1 hg hB hy hd
    refine pcSeq (fun Q1 n1 r1 e1 => ?_)
    refine wp_pcOnly ?_
    go_wp2_with fail
    go_quiet (fail)
    refine n1 _ _ ?_
    go_wp2_with fail
    exact HE.out _ _ _ _ _ _ _ _ _ _ _ _ _ _ _ _ _ _ HX.out (HB.out _)
  have d1 : decide (y < 1) = false := decide_eq_false q1
  by_cases q2 : d < 1
  · have d2 : decide (d < 1) = true := decide_eq_true q2
    have HX : Hid (¬ (1 ≤ y ∧ 1 ≤ d)) := fun e => by omega
    rw [hs] at HE HN
    clear HN q1 q2 hg hB hy hd
    refine pcSeq (fun Q1 n1 r1 e1 => ?_)
    refine wp_pcOnly ?_
    go_wp2_with fail
    go_quiet (fail)
    refine n1 _ _ ?_
    go_wp2_with fail
    exact HE.out _ _ _ _ _ _ _ _ _ _ _ _ _ _ _ _ _ _ HX.out (HB.out _)
  have d2 : decide (d < 1) = false := decide_eq_false q2
  have HX : Hid (1 ≤ y ∧ 1 ≤ d) := ⟨by omega, by omega⟩
  rw [hs] at HE HN
  clear HE q1 q2 hg hB hy hd
  refine pcSeq (fun Q1 n1 r1 e1 => ?_)
  refine wp_pcOnly ?_
  go_wp2_with fail
  go_quiet (fail)
  refine n1 _ _ ?_
  go_wp2_with fail
  exact HN.out _ _ _ _ _ _ _ _ _ _ _ _ _ _ _ _ _ _ HX.out (HB.out _)

set_option maxRecDepth 100000 in
set_option maxHeartbeats 12800000 in
theorem bx_p16 {x1 x2 x4 x5 x7 x8 x9 x10 x11 x12 x13 x14 x15 x16 x18 x19 x20 x21 x22 x23 x24 x25 x26 x27 x28 x29 x30 x31 x32 x33 x34 x35 x36 x37 x38 x39 x40 x41 x42 x43 x44 x45 x46 x47 x48 x49 x50 x51 x52 x53 x54 x55 x56 x57 x58 x59 x60 x61 x62 x63 x64 x65 x66 x67 x68 x69 x70 x71 x72 x73 x74 x75 x76 x77 x78 x79 x80 x81 x82 x83 x84 x85 x86 x87 x88 x89 x90 x91 x92 x93 x94 x95 x96 x97 x98 x99 x100 x101 x102 x103 x104 x105 x106 x107 x108 x109 x110 x111 x112 x113 x114 x115 x116 x117 x118 x119 x120 x121 x122 x123 x124 x125 : Value} {Q : Exit → Act → World → Prop} {W : World} {g b off n c i : Nat} {l A B x y : Int} (hg : SVar W g A B) (z0 : W.cell? ⟨b, off + i * 2, none⟩ = some (.int .i64 x)) (z1 : W.cell? ⟨b, off + i * 2 + 1, none⟩ = some (.int .i64 y)) (hi : i < n) (hl : -9223372036854775808 ≤ l ∧ l < 9223372036854775808) (hP : GainArg l x y A B)
    (hN : ∀ (m : Bool) (p : Option Addr) (k n0 : Nat) (p' : Option Addr) (k' n0' : Nat) (s : Nat) (wx : World) (y19 y94 y95 y96 y97 y98 y99 y100 y101 y102 y103 : Value), Cell3 wx s m p k n0 p' k' n0' → FrAt17 wx m p k n0 p' k' n0' (gainQ l x y A B) → W.heap.size ≤ s → Below W.heap.size W wx → Q .normal ⟨#[.int .i64 l, x1, x2, .slice (some ⟨b, off, none⟩) n c, x4, x5, .pointer (some ⟨g, 0, none⟩), x7, x8, x9, x10, x11, x12, x13, x14, x15, x16, .int .i64 (i : Int), .pointer (some ⟨s, 0, none⟩), y19, x20, x21, x22, x23, x24, x25, x26, x27, x28, x29, x30, x31, x32, x33, x34, x35, x36, x37, x38, x39, x40, x41, x42, x43, x44, x45, x46, x47, x48, x49, x50, x51, x52, x53, x54, x55, x56, x57, x58, x59, x60, x61, x62, x63, x64, x65, x66, x67, x68, x69, x70, x71, x72, x73, x74, x75, x76, x77, x78, x79, x80, x81, x82, x83, x84, x85, x86, x87, x88, x89, x90, x91, x92, x93, y94, y95, y96, y97, y98, y99, y100, y101, y102, y103, x104, x105, x106, x107, x108, x109, x110, x111, x112, x113, x114, x115, x116, x117, x118, x119, x120, x121, x122, x123, x124, x125], []⟩ wx) :
    Code.wp Tryz.prog (((Tryz.f10.body.bind (pcBlk 3)).bind (pcAt 16)).getD .skip) Q ⟨#[.int .i64 l, x1, x2, .slice (some ⟨b, off, none⟩) n c, x4, x5, .pointer (some ⟨g, 0, none⟩), x7, x8, x9, x10, x11, x12, x13, x14, x15, x16, .int .i64 (i : Int), x18, x19, x20, x21, x22, x23, x24, x25, x26, x27, x28, x29, x30, x31, x32, x33, x34, x35, x36, x37, x38, x39, x40, x41, x42, x43, x44, x45, x46, x47, x48, x49, x50, x51, x52, x53, x54, x55, x56, x57, x58, x59, x60, x61, x62, x63, x64, x65, x66, x67, x68, x69, x70, x71, x72, x73, x74, x75, x76, x77, x78, x79, x80, x81, x82, x83, x84, x85, x86, x87, x88, x89, x90, x91, x92, x93, x94, x95, x96, x97, x98, x99, x100, x101, x102, x103, x104, x105, x106, x107, x108, x109, x110, x111, x112, x113, x114, x115, x116, x117, x118, x119, x120, x121, x122, x123, x124, x125], []⟩ W := by
  conv => arg 2; whnf
  have HN : Hid (∀ (m : Bool) (p : Option Addr) (k n0 : Nat) (p' : Option Addr) (k' n0' : Nat) (s : Nat) (wx : World) (y19 y94 y95 y96 y97 y98 y99 y100 y101 y102 y103 : Value), Cell3 wx s m p k n0 p' k' n0' → FrAt17 wx m p k n0 p' k' n0' (gainQ l x y A B) → W.heap.size ≤ s → Below W.heap.size W wx → Q .normal ⟨#[.int .i64 l, x1, x2, .slice (some ⟨b, off, none⟩) n c, x4, x5, .pointer (some ⟨g, 0, none⟩), x7, x8, x9, x10, x11, x12, x13, x14, x15, x16, .int .i64 (i : Int), .pointer (some ⟨s, 0, none⟩), y19, x20, x21, x22, x23, x24, x25, x26, x27, x28, x29, x30, x31, x32, x33, x34, x35, x36, x37, x38, x39, x40, x41, x42, x43, x44, x45, x46, x47, x48, x49, x50, x51, x52, x53, x54, x55, x56, x57, x58, x59, x60, x61, x62, x63, x64, x65, x66, x67, x68, x69, x70, x71, x72, x73, x74, x75, x76, x77, x78, x79, x80, x81, x82, x83, x84, x85, x86, x87, x88, x89, x90, x91, x92, x93, y94, y95, y96, y97, y98, y99, y100, y101, y102, y103, x104, x105, x106, x107, x108, x109, x110, x111, x112, x113, x114, x115, x116, x117, x118, x119, x120, x121, x122, x123, x124, x125], []⟩ wx) := hN
  clear hN
  have hi1 : (i : Int) < (n : Int) := by omega
  have hi0 : (0 : Int) ≤ (i : Int) := by omega
  have HS : Hid (∀ wx, Below W.heap.size W wx → wx.cell? ⟨b, off + i * 2, none⟩ = some (.int .i64 x) ∧ wx.cell? ⟨b, off + i * 2 + 1, none⟩ = some (.int .i64 y) ∧ wx.cell? ⟨g, 0, none⟩ = some (.int .i64 A) ∧ wx.cell? ⟨g, 1, none⟩ = some (.int .i64 B)) := fun wx h => ⟨bkeep h z0 rfl, bkeep h z1 rfl, bkeep h hg.cell.1 rfl, bkeep h hg.cell.2 rfl⟩
  have HC : Hid (∀ wx, Below W.heap.size W wx → Calls Tryz.prog 7 #[.int .i64 l, .agg #[.int .i64 x, .int .i64 y], .agg #[.int .i64 A, .int .i64 B]] wx fun e w' => ∃ m p k n0 p' k' n0', e = .returned (.tuple #[.agg #[.bool m, .slice p k n0, .slice p' k' n0'], .int .i64 0]) ∧ Hid (FrAt17 w' m p k n0 p' k' n0' (gainQ l x y A B)) ∧ Below W.heap.size W w' ∧ (∀ g', Cell3 wx g' false none 0 0 none 0 0 → Cell3 w' g' false none 0 0 none 0 0)) := fun wx h => (r17gain_any l x y A B wx hl).mono (fun e w' q => by
    obtain ⟨m, p, k, n0, p', k', n0', rfl, hF, hb⟩ := q.ok hP
    exact ⟨m, p, k, n0, p', k', n0', rfl, hF, bthen h hb, fun g' k => k.below hb⟩)
  clear hg z0 z1 hi hl hP
  refine wp_pcOnly ?_
  go_wp2_with fail
  go_region_held3 (fun w' => w'.cell? ⟨b, off + i * 2, none⟩ = some (.int .i64 x) ∧ w'.cell? ⟨b, off + i * 2 + 1, none⟩ = some (.int .i64 y) ∧ w'.cell? ⟨g, 0, none⟩ = some (.int .i64 A) ∧ w'.cell? ⟨g, 1, none⟩ = some (.int .i64 B)) (first | exact HS.out _ (by repeat (first | exact Below.refl _ _ | assumption | refine bdr12 ?_ | refine bgr12 ?_ _ | (refine bst17 ?_ ?_ _; rotate_left; focus (first | (dsimp only; omega) | (simp; done) | (simp; omega) | fail)))) | go_keep | assumption) (first
    | (go_at_call 7; with_reducible refine Calls.mono (HC.out _ (by repeat (first | exact Below.refl _ _ | assumption | refine bdr12 ?_ | refine bgr12 ?_ _ | (refine bst17 ?_ ?_ _; rotate_left; focus (first | (dsimp only; omega) | (simp; done) | (simp; omega) | fail))))) ?_; rintro e w5 ⟨m, p, k, n0, p', k', n0', rfl, hF, b5, k5⟩; have y5 := b5.size; (first | (have T5 : Cell3 w5 W.heap.size false none 0 0 none 0 0 := k5 _ (Cell3.drew17 (Cell3.new W false none none 0 0 0 0)); obtain ⟨C0, C1, C2, F0, F1, F2⟩ := T5) | (have T5 : Cell3 w5 W.heap.size false none 0 0 none 0 0 := k5 _ (Cell3.new W false none none 0 0 0 0); obtain ⟨C0, C1, C2, F0, F1, F2⟩ := T5) | skip))
    | fail)
  all_goals
    first
      | exact HN.out _ _ _ _ _ _ _ _ _ _ _ _ _ _ _ _ _ _ _ _ (Cell3.new w5 m p p' k n0 k' n0') (hF.out.below (balloc _ _)) y5 (bthen b5 (balloc _ _))
      | (have T5 : Cell3 w5 W.heap.size false none 0 0 none 0 0 := ⟨C0, C1, C2, F0, F1, F2⟩
         exact HN.out _ _ _ _ _ _ _ _ _ _ _ _ _ _ _ _ _ _ _ _ (T5.put m p p' k n0 k' n0') (FrAt17.put17 hF.out T5) (Nat.le_refl _) (put3_below b5 (Nat.le_refl _) _ _ _))
      | fail

set_option maxRecDepth 100000 in
set_option maxHeartbeats 12800000 in
theorem bx_p17 {x0 x1 x2 x3 x4 x5 x6 x7 x8 x9 x10 x11 x12 x13 x15 x16 x17 x19 x20 x21 x22 x23 x24 x25 x26 x27 x28 x29 x30 x31 x32 x33 x34 x35 x36 x37 x38 x39 x40 x41 x42 x43 x44 x45 x46 x47 x48 x49 x50 x51 x52 x53 x54 x55 x56 x57 x58 x59 x60 x61 x62 x63 x64 x65 x66 x67 x68 x69 x70 x71 x72 x73 x74 x75 x76 x77 x78 x79 x80 x81 x82 x83 x84 x85 x86 x87 x88 x89 x90 x91 x92 x93 x94 x95 x96 x97 x98 x99 x100 x101 x102 x103 x104 x105 x106 x107 x108 x109 x110 x111 x112 x113 x114 x115 x116 x117 x118 x119 x120 x121 x122 x123 x124 x125 : Value} {Q : Exit → Act → World → Prop} {W : World} {s1 s2 : Nat} {P Q2 : Q17} {m1 m2 : Bool} {a1 b1 a2 b2 : Option Addr} {k1 n1 k2 n2 k3 n3 k4 n4 : Nat} (h1 : Cell3 W s1 m1 a1 k1 n1 b1 k2 n2) (f1 : FrAt17 W m1 a1 k1 n1 b1 k2 n2 P) (h2 : Cell3 W s2 m2 a2 k3 n3 b2 k4 n4) (f2 : FrAt17 W m2 a2 k3 n3 b2 k4 n4 Q2) (g1 : Fit17 P) (g2 : Fit17 Q2)
    (hN : ∀ (t : Int) (wx : World) (y104 y105 y106 : Value), t = cmpZ (P.1 * (Q2.2 : Int)) (Q2.1 * (P.2 : Int)) → Below W.heap.size W wx → Q .normal ⟨#[x0, x1, x2, x3, x4, x5, x6, x7, x8, x9, x10, x11, x12, x13, .pointer (some ⟨s2, 0, none⟩), x15, x16, x17, .pointer (some ⟨s1, 0, none⟩), x19, .int .i64 t, x21, x22, x23, x24, x25, x26, x27, x28, x29, x30, x31, x32, x33, x34, x35, x36, x37, x38, x39, x40, x41, x42, x43, x44, x45, x46, x47, x48, x49, x50, x51, x52, x53, x54, x55, x56, x57, x58, x59, x60, x61, x62, x63, x64, x65, x66, x67, x68, x69, x70, x71, x72, x73, x74, x75, x76, x77, x78, x79, x80, x81, x82, x83, x84, x85, x86, x87, x88, x89, x90, x91, x92, x93, x94, x95, x96, x97, x98, x99, x100, x101, x102, x103, y104, y105, y106, x107, x108, x109, x110, x111, x112, x113, x114, x115, x116, x117, x118, x119, x120, x121, x122, x123, x124, x125], []⟩ wx) :
    Code.wp Tryz.prog (((Tryz.f10.body.bind (pcBlk 3)).bind (pcAt 17)).getD .skip) Q ⟨#[x0, x1, x2, x3, x4, x5, x6, x7, x8, x9, x10, x11, x12, x13, .pointer (some ⟨s2, 0, none⟩), x15, x16, x17, .pointer (some ⟨s1, 0, none⟩), x19, x20, x21, x22, x23, x24, x25, x26, x27, x28, x29, x30, x31, x32, x33, x34, x35, x36, x37, x38, x39, x40, x41, x42, x43, x44, x45, x46, x47, x48, x49, x50, x51, x52, x53, x54, x55, x56, x57, x58, x59, x60, x61, x62, x63, x64, x65, x66, x67, x68, x69, x70, x71, x72, x73, x74, x75, x76, x77, x78, x79, x80, x81, x82, x83, x84, x85, x86, x87, x88, x89, x90, x91, x92, x93, x94, x95, x96, x97, x98, x99, x100, x101, x102, x103, x104, x105, x106, x107, x108, x109, x110, x111, x112, x113, x114, x115, x116, x117, x118, x119, x120, x121, x122, x123, x124, x125], []⟩ W := by
  conv => arg 2; whnf
  have HN : Hid (∀ (t : Int) (wx : World) (y104 y105 y106 : Value), t = cmpZ (P.1 * (Q2.2 : Int)) (Q2.1 * (P.2 : Int)) → Below W.heap.size W wx → Q .normal ⟨#[x0, x1, x2, x3, x4, x5, x6, x7, x8, x9, x10, x11, x12, x13, .pointer (some ⟨s2, 0, none⟩), x15, x16, x17, .pointer (some ⟨s1, 0, none⟩), x19, .int .i64 t, x21, x22, x23, x24, x25, x26, x27, x28, x29, x30, x31, x32, x33, x34, x35, x36, x37, x38, x39, x40, x41, x42, x43, x44, x45, x46, x47, x48, x49, x50, x51, x52, x53, x54, x55, x56, x57, x58, x59, x60, x61, x62, x63, x64, x65, x66, x67, x68, x69, x70, x71, x72, x73, x74, x75, x76, x77, x78, x79, x80, x81, x82, x83, x84, x85, x86, x87, x88, x89, x90, x91, x92, x93, x94, x95, x96, x97, x98, x99, x100, x101, x102, x103, y104, y105, y106, x107, x108, x109, x110, x111, x112, x113, x114, x115, x116, x117, x118, x119, x120, x121, x122, x123, x124, x125], []⟩ wx) := hN
  clear hN
  obtain ⟨x0, x1, x2, -, -, -⟩ := h1
  obtain ⟨y0, y1, y2, -, -, -⟩ := h2
  obtain ⟨us, vs, u1, u2, hW, hN⟩ := f1
  obtain ⟨us', vs', u3, u4, hW', hN'⟩ := f2
  have hc := r8cmp_any m1 m2 _ _ _ _ _ _ _ _ _ _ _ _ us vs us' vs' W u1 u2 u3 u4
  have e : cmpFF m1 us vs m2 us' vs' = cmpZ (P.1 * (Q2.2 : Int)) (Q2.1 * (P.2 : Int)) := by
    unfold cmpFF
    rw [right_low17 g1.1 g1.2.1 g1.2.2 hW hN, right_low17 g2.1 g2.2.1 g2.2.2 hW' hN', hW.2.2, hW'.2.2, hN.nv, hN'.nv]
    exact low_cmp17 g1.1 g2.1
  rw [e] at hc
  obtain ⟨t, ht⟩ : ∃ t, t = cmpZ (P.1 * (Q2.2 : Int)) (Q2.1 * (P.2 : Int)) := ⟨_, rfl⟩
  rw [← ht] at hc
  have HT : Hid (t = cmpZ (P.1 * (Q2.2 : Int)) (Q2.1 * (P.2 : Int))) := ht
  have HC := (show Hid _ from hc)
  clear u1 u2 u3 u4 hW hN hW' hN' hc e ht g1 g2
  go_wp2_with fail
  refine Calls.mono HC.out ?_
  rintro e w1 ⟨rfl, hb⟩
  have HB : Hid (Below W.heap.size W w1) := hb
  clear HC hb x0 x1 x2 y0 y1 y2
  go_wp2_with fail
  exact HN.out _ _ _ _ _ HT.out HB.out

set_option maxRecDepth 100000 in
set_option maxHeartbeats 12800000 in
theorem bx_p18 {x0 x1 x2 x3 x4 x5 x6 x7 x8 x9 x10 x11 x12 x13 x15 x17 x19 x21 x22 x23 x24 x25 x26 x27 x28 x29 x30 x31 x32 x33 x34 x35 x36 x37 x38 x39 x40 x41 x42 x43 x44 x45 x46 x47 x48 x49 x50 x51 x52 x53 x54 x55 x56 x57 x58 x59 x60 x61 x62 x63 x64 x65 x66 x67 x68 x69 x70 x71 x72 x73 x74 x75 x76 x77 x78 x79 x80 x81 x82 x83 x84 x85 x86 x87 x88 x89 x90 x91 x92 x93 x94 x95 x96 x97 x98 x99 x100 x101 x102 x103 x104 x105 x106 x107 x108 x109 x110 x111 x112 x113 x114 x115 x116 x117 x118 x119 x120 x121 x122 x123 x124 x125 : Value} {Q : Exit → Act → World → Prop} {W : World} {s1 s2 : Nat} {t : Int} {v : Value} {m1 m2 : Bool} {a1 b1 a2 b2 : Option Addr} {k1 n1 k2 n2 k3 n3 k4 n4 : Nat} (h1 : Cell3 W s1 m1 a1 k1 n1 b1 k2 n2) (h2 : Cell3 W s2 m2 a2 k3 n3 b2 k4 n4)
    (hN : ∀ (y107 y108 y109 : Value), ¬ 0 < t → Q .normal ⟨#[x0, x1, x2, x3, x4, x5, x6, x7, x8, x9, x10, x11, x12, x13, .pointer (some ⟨s2, 0, none⟩), x15, v, x17, .pointer (some ⟨s1, 0, none⟩), x19, .int .i64 t, x21, x22, x23, x24, x25, x26, x27, x28, x29, x30, x31, x32, x33, x34, x35, x36, x37, x38, x39, x40, x41, x42, x43, x44, x45, x46, x47, x48, x49, x50, x51, x52, x53, x54, x55, x56, x57, x58, x59, x60, x61, x62, x63, x64, x65, x66, x67, x68, x69, x70, x71, x72, x73, x74, x75, x76, x77, x78, x79, x80, x81, x82, x83, x84, x85, x86, x87, x88, x89, x90, x91, x92, x93, x94, x95, x96, x97, x98, x99, x100, x101, x102, x103, x104, x105, x106, y107, y108, y109, x110, x111, x112, x113, x114, x115, x116, x117, x118, x119, x120, x121, x122, x123, x124, x125], []⟩ W)
    (hM : ∀ (y107 y108 y109 : Value), 0 < t → Q .normal ⟨#[x0, x1, x2, x3, x4, x5, x6, x7, x8, x9, x10, x11, x12, x13, .pointer (some ⟨s2, 0, none⟩), x15, .slice none 0 0, x17, .pointer (some ⟨s1, 0, none⟩), x19, .int .i64 t, x21, x22, x23, x24, x25, x26, x27, x28, x29, x30, x31, x32, x33, x34, x35, x36, x37, x38, x39, x40, x41, x42, x43, x44, x45, x46, x47, x48, x49, x50, x51, x52, x53, x54, x55, x56, x57, x58, x59, x60, x61, x62, x63, x64, x65, x66, x67, x68, x69, x70, x71, x72, x73, x74, x75, x76, x77, x78, x79, x80, x81, x82, x83, x84, x85, x86, x87, x88, x89, x90, x91, x92, x93, x94, x95, x96, x97, x98, x99, x100, x101, x102, x103, x104, x105, x106, y107, y108, y109, x110, x111, x112, x113, x114, x115, x116, x117, x118, x119, x120, x121, x122, x123, x124, x125], []⟩ (((W.setCell ⟨s2, 0, none⟩ (.bool m1)).setCell ⟨s2, 1, none⟩ (.slice a1 k1 n1)).setCell ⟨s2, 2, none⟩ (.slice b1 k2 n2))) :
    Code.wp Tryz.prog (((Tryz.f10.body.bind (pcBlk 3)).bind (pcAt 18)).getD .skip) Q ⟨#[x0, x1, x2, x3, x4, x5, x6, x7, x8, x9, x10, x11, x12, x13, .pointer (some ⟨s2, 0, none⟩), x15, v, x17, .pointer (some ⟨s1, 0, none⟩), x19, .int .i64 t, x21, x22, x23, x24, x25, x26, x27, x28, x29, x30, x31, x32, x33, x34, x35, x36, x37, x38, x39, x40, x41, x42, x43, x44, x45, x46, x47, x48, x49, x50, x51, x52, x53, x54, x55, x56, x57, x58, x59, x60, x61, x62, x63, x64, x65, x66, x67, x68, x69, x70, x71, x72, x73, x74, x75, x76, x77, x78, x79, x80, x81, x82, x83, x84, x85, x86, x87, x88, x89, x90, x91, x92, x93, x94, x95, x96, x97, x98, x99, x100, x101, x102, x103, x104, x105, x106, x107, x108, x109, x110, x111, x112, x113, x114, x115, x116, x117, x118, x119, x120, x121, x122, x123, x124, x125], []⟩ W := by
  conv => arg 2; whnf
  have HN : Hid (∀ (y107 y108 y109 : Value), ¬ 0 < t → Q .normal ⟨#[x0, x1, x2, x3, x4, x5, x6, x7, x8, x9, x10, x11, x12, x13, .pointer (some ⟨s2, 0, none⟩), x15, v, x17, .pointer (some ⟨s1, 0, none⟩), x19, .int .i64 t, x21, x22, x23, x24, x25, x26, x27, x28, x29, x30, x31, x32, x33, x34, x35, x36, x37, x38, x39, x40, x41, x42, x43, x44, x45, x46, x47, x48, x49, x50, x51, x52, x53, x54, x55, x56, x57, x58, x59, x60, x61, x62, x63, x64, x65, x66, x67, x68, x69, x70, x71, x72, x73, x74, x75, x76, x77, x78, x79, x80, x81, x82, x83, x84, x85, x86, x87, x88, x89, x90, x91, x92, x93, x94, x95, x96, x97, x98, x99, x100, x101, x102, x103, x104, x105, x106, y107, y108, y109, x110, x111, x112, x113, x114, x115, x116, x117, x118, x119, x120, x121, x122, x123, x124, x125], []⟩ W) := hN
  have HM : Hid (∀ (y107 y108 y109 : Value), 0 < t → Q .normal ⟨#[x0, x1, x2, x3, x4, x5, x6, x7, x8, x9, x10, x11, x12, x13, .pointer (some ⟨s2, 0, none⟩), x15, .slice none 0 0, x17, .pointer (some ⟨s1, 0, none⟩), x19, .int .i64 t, x21, x22, x23, x24, x25, x26, x27, x28, x29, x30, x31, x32, x33, x34, x35, x36, x37, x38, x39, x40, x41, x42, x43, x44, x45, x46, x47, x48, x49, x50, x51, x52, x53, x54, x55, x56, x57, x58, x59, x60, x61, x62, x63, x64, x65, x66, x67, x68, x69, x70, x71, x72, x73, x74, x75, x76, x77, x78, x79, x80, x81, x82, x83, x84, x85, x86, x87, x88, x89, x90, x91, x92, x93, x94, x95, x96, x97, x98, x99, x100, x101, x102, x103, x104, x105, x106, y107, y108, y109, x110, x111, x112, x113, x114, x115, x116, x117, x118, x119, x120, x121, x122, x123, x124, x125], []⟩ (((W.setCell ⟨s2, 0, none⟩ (.bool m1)).setCell ⟨s2, 1, none⟩ (.slice a1 k1 n1)).setCell ⟨s2, 2, none⟩ (.slice b1 k2 n2))) := hM
  clear hN hM
  obtain ⟨x0, x1, x2, -, -, -⟩ := h1
  obtain ⟨y0, y1, y2, f0, f1, f2⟩ := h2
  by_cases q : 0 < t
  · have d : decide (0 < t) = true := decide_eq_true q
    clear HN
    go_wp2_with fail
    exact HM.out  _ _ _ q
  · have d : decide (0 < t) = false := decide_eq_false q
    clear HM
    go_wp2_with fail
    exact HN.out  _ _ _ q

set_option maxRecDepth 100000 in
set_option maxHeartbeats 12800000 in
theorem bx_p21 {x0 x1 x2 x3 x4 x5 x6 x7 x8 x9 x10 x11 x12 x13 x14 x15 x18 x19 x21 x22 x23 x24 x25 x26 x27 x28 x29 x30 x31 x32 x33 x34 x35 x36 x37 x38 x39 x40 x41 x42 x43 x44 x45 x46 x47 x48 x49 x50 x51 x52 x53 x54 x55 x56 x57 x58 x59 x60 x61 x62 x63 x64 x65 x66 x67 x68 x69 x70 x71 x72 x73 x74 x75 x76 x77 x78 x79 x80 x81 x82 x83 x84 x85 x86 x87 x88 x89 x90 x91 x92 x93 x94 x95 x96 x97 x98 x99 x100 x101 x102 x103 x104 x105 x106 x107 x108 x109 x110 x111 x112 x113 x114 x115 x116 x117 x118 x119 x120 x121 x122 x123 x124 x125 : Value} {Q : Exit → Act → World → Prop} {W : World} {oa : Option Addr} {on oc i K : Nat} {t : Int} {xs : List Int} (hO : IOwn W K (.slice oa on oc) xs) (hn : xs.length < 1000000) (hK : K ≤ W.heap.size)
    (hN : ∀ (y110 y111 y112 y113 y114 y115 y116 y117 y118 y119 y120 y121 y122 y123 y124 : Value), ¬ (0 < t ∨ (t = 0 ∧ 0 < on)) → Q .normal ⟨#[x0, x1, x2, x3, x4, x5, x6, x7, x8, x9, x10, x11, x12, x13, x14, x15, .slice oa on oc, .int .i64 (i : Int), x18, x19, .int .i64 t, x21, x22, x23, x24, x25, x26, x27, x28, x29, x30, x31, x32, x33, x34, x35, x36, x37, x38, x39, x40, x41, x42, x43, x44, x45, x46, x47, x48, x49, x50, x51, x52, x53, x54, x55, x56, x57, x58, x59, x60, x61, x62, x63, x64, x65, x66, x67, x68, x69, x70, x71, x72, x73, x74, x75, x76, x77, x78, x79, x80, x81, x82, x83, x84, x85, x86, x87, x88, x89, x90, x91, x92, x93, x94, x95, x96, x97, x98, x99, x100, x101, x102, x103, x104, x105, x106, x107, x108, x109, y110, y111, y112, y113, y114, y115, y116, y117, y118, y119, y120, y121, y122, y123, y124, x125], []⟩ W)
    (hM : ∀ (v : Value) (w5 : World) (y110 y111 y112 y113 y114 y115 y116 y117 y118 y119 y120 y121 y122 y123 y124 : Value), (0 < t ∨ (t = 0 ∧ 0 < on)) → IOwn w5 K v (xs ++ [(i : Int)]) → Below K W w5 → (∀ j, j < W.heap.size → (Value.slice oa on oc).ownBlock ≠ some j → w5.heap[j]? = W.heap[j]?) → Q .normal ⟨#[x0, x1, x2, x3, x4, x5, x6, x7, x8, x9, x10, x11, x12, x13, x14, x15, v, .int .i64 (i : Int), x18, x19, .int .i64 t, x21, x22, x23, x24, x25, x26, x27, x28, x29, x30, x31, x32, x33, x34, x35, x36, x37, x38, x39, x40, x41, x42, x43, x44, x45, x46, x47, x48, x49, x50, x51, x52, x53, x54, x55, x56, x57, x58, x59, x60, x61, x62, x63, x64, x65, x66, x67, x68, x69, x70, x71, x72, x73, x74, x75, x76, x77, x78, x79, x80, x81, x82, x83, x84, x85, x86, x87, x88, x89, x90, x91, x92, x93, x94, x95, x96, x97, x98, x99, x100, x101, x102, x103, x104, x105, x106, x107, x108, x109, y110, y111, y112, y113, y114, y115, y116, y117, y118, y119, y120, y121, y122, y123, y124, x125], []⟩ w5) :
    Code.wp Tryz.prog (((Tryz.f10.body.bind (pcBlk 3)).bind (pcFrom 21)).getD .skip) Q ⟨#[x0, x1, x2, x3, x4, x5, x6, x7, x8, x9, x10, x11, x12, x13, x14, x15, .slice oa on oc, .int .i64 (i : Int), x18, x19, .int .i64 t, x21, x22, x23, x24, x25, x26, x27, x28, x29, x30, x31, x32, x33, x34, x35, x36, x37, x38, x39, x40, x41, x42, x43, x44, x45, x46, x47, x48, x49, x50, x51, x52, x53, x54, x55, x56, x57, x58, x59, x60, x61, x62, x63, x64, x65, x66, x67, x68, x69, x70, x71, x72, x73, x74, x75, x76, x77, x78, x79, x80, x81, x82, x83, x84, x85, x86, x87, x88, x89, x90, x91, x92, x93, x94, x95, x96, x97, x98, x99, x100, x101, x102, x103, x104, x105, x106, x107, x108, x109, x110, x111, x112, x113, x114, x115, x116, x117, x118, x119, x120, x121, x122, x123, x124, x125], []⟩ W := by
  conv => arg 2; whnf
  have HN : Hid (∀ (y110 y111 y112 y113 y114 y115 y116 y117 y118 y119 y120 y121 y122 y123 y124 : Value), ¬ (0 < t ∨ (t = 0 ∧ 0 < on)) → Q .normal ⟨#[x0, x1, x2, x3, x4, x5, x6, x7, x8, x9, x10, x11, x12, x13, x14, x15, .slice oa on oc, .int .i64 (i : Int), x18, x19, .int .i64 t, x21, x22, x23, x24, x25, x26, x27, x28, x29, x30, x31, x32, x33, x34, x35, x36, x37, x38, x39, x40, x41, x42, x43, x44, x45, x46, x47, x48, x49, x50, x51, x52, x53, x54, x55, x56, x57, x58, x59, x60, x61, x62, x63, x64, x65, x66, x67, x68, x69, x70, x71, x72, x73, x74, x75, x76, x77, x78, x79, x80, x81, x82, x83, x84, x85, x86, x87, x88, x89, x90, x91, x92, x93, x94, x95, x96, x97, x98, x99, x100, x101, x102, x103, x104, x105, x106, x107, x108, x109, y110, y111, y112, y113, y114, y115, y116, y117, y118, y119, y120, y121, y122, y123, y124, x125], []⟩ W) := hN
  have HM : Hid (∀ (v : Value) (w5 : World) (y110 y111 y112 y113 y114 y115 y116 y117 y118 y119 y120 y121 y122 y123 y124 : Value), (0 < t ∨ (t = 0 ∧ 0 < on)) → IOwn w5 K v (xs ++ [(i : Int)]) → Below K W w5 → (∀ j, j < W.heap.size → (Value.slice oa on oc).ownBlock ≠ some j → w5.heap[j]? = W.heap[j]?) → Q .normal ⟨#[x0, x1, x2, x3, x4, x5, x6, x7, x8, x9, x10, x11, x12, x13, x14, x15, v, .int .i64 (i : Int), x18, x19, .int .i64 t, x21, x22, x23, x24, x25, x26, x27, x28, x29, x30, x31, x32, x33, x34, x35, x36, x37, x38, x39, x40, x41, x42, x43, x44, x45, x46, x47, x48, x49, x50, x51, x52, x53, x54, x55, x56, x57, x58, x59, x60, x61, x62, x63, x64, x65, x66, x67, x68, x69, x70, x71, x72, x73, x74, x75, x76, x77, x78, x79, x80, x81, x82, x83, x84, x85, x86, x87, x88, x89, x90, x91, x92, x93, x94, x95, x96, x97, x98, x99, x100, x101, x102, x103, x104, x105, x106, x107, x108, x109, y110, y111, y112, y113, y114, y115, y116, y117, y118, y119, y120, y121, y122, y123, y124, x125], []⟩ w5) := hM
  clear hN hM
  have hlit := balloc W (.cells #[.int .i64 (i : Int)] 3)
  have hO2 := hO.alloc (.cells #[.int .i64 (i : Int)] 3)
  have hbs : K ≤ (W.alloc (.cells #[.int .i64 (i : Int)] 3)).heap.size := Nat.le_trans hK hlit.size
  have HA : Hid (∀ v w5, IOwn w5 K v (xs ++ [(i : Int)]) → (W.alloc (.cells #[.int .i64 (i : Int)] 3)).grownBy w5 (Value.slice oa on oc).ownBlock → IOwn w5 K v (xs ++ [(i : Int)]) ∧ Below K W w5 ∧ (∀ j, j < W.heap.size → (Value.slice oa on oc).ownBlock ≠ some j → w5.heap[j]? = W.heap[j]?)) := fun v w5 h g5 =>
    ⟨h, (hlit.mono hK).trans (IOwn.low17 hO2 g5 hbs), fun j hj hne => (g5.block j (Nat.lt_of_lt_of_le hj hlit.size) (fun e => hne e.symm)).trans (hlit.block j hj)⟩
  by_cases q : 0 < t
  · have d : decide (0 < t) = true := decide_eq_true q
    have HX : Hid (0 < t ∨ (t = 0 ∧ 0 < on)) := .inl q
    clear HN q hO hlit hK
    go_wp2_with (at_builtin; refine wpList_appI1 _ rfl _ _ 38 rfl Tryz.underlying38 K _ xs rfl hO2 ⟨W.heap.size, 0, none⟩ (i : Int) rfl (by simp) hn hbs ?_)
    intro v5 w5 h5 g5
    have HF := (show Hid _ from HA.out v5 w5 h5 g5)
    clear hO2 h5 g5 HA hbs hn
    go_wp2_with fail
    exact HM.out _ _ _ _ _ _ _ _ _ _ _ _ _ _ _ _ _ HX.out HF.out.1 HF.out.2.1 HF.out.2.2
  have d : decide (0 < t) = false := decide_eq_false q
  by_cases q2 : t = 0
  · by_cases q3 : 0 < on
    · subst q2
      have d2 : decide ((0 : Int) < (on : Int)) = true := decide_eq_true (by omega)
      have d3 : decide (0 < on) = true := decide_eq_true q3
      have HX : Hid (0 < (0 : Int) ∨ ((0 : Int) = 0 ∧ 0 < on)) := .inr ⟨rfl, q3⟩
      clear HN q hO hlit hK
      go_wp2_with (at_builtin; refine wpList_appI1 _ rfl _ _ 38 rfl Tryz.underlying38 K _ xs rfl hO2 ⟨W.heap.size, 0, none⟩ (i : Int) rfl (by simp) hn hbs ?_)
      intro v5 w5 h5 g5
      have HF := (show Hid _ from HA.out v5 w5 h5 g5)
      clear hO2 h5 g5 HA hbs hn
      go_wp2_with fail
      exact HM.out _ _ _ _ _ _ _ _ _ _ _ _ _ _ _ _ _ HX.out HF.out.1 HF.out.2.1 HF.out.2.2
    · subst q2
      have d2 : decide ((0 : Int) < (on : Int)) = false := decide_eq_false (by omega)
      have d3 : decide (0 < on) = false := decide_eq_false q3
      have HX : Hid (¬ (0 < (0 : Int) ∨ ((0 : Int) = 0 ∧ 0 < on))) := fun e => by omega
      clear HM HA hO2 hO hlit hK hbs
      go_wp2_with fail
      exact HN.out  _ _ _ _ _ _ _ _ _ _ _ _ _ _ _ HX.out
  · have dq : (t == 0) = false := by simp [q2]
    have HX : Hid (¬ (0 < t ∨ (t = 0 ∧ 0 < on))) := fun e => by omega
    clear HM HA hO2 hO hlit hK hbs
    go_wp2_with fail
    exact HN.out  _ _ _ _ _ _ _ _ _ _ _ _ _ _ _ HX.out

end Go.Proofs.YtchmlfjjgehbkaaGreat

namespace Go.Proofs.YtchmlfjjgehbkaaGreat
open Go.RowKit

theorem Kept17.word17 {f : Nat → Option Q17} {g b : Q17} {i : Nat} {xs : List Int} (h : Kept17 f g i b xs) (hi : i < 9223372036854775808) : ∀ x, x ∈ xs → -9223372036854775808 ≤ x ∧ x < 9223372036854775808 := fun x hx => by
  obtain ⟨j, rfl, h1, -⟩ := (h.mem x).1 hx
  omega
theorem Nums.lt17 {w : World} {a : Option Addr} {l c : Nat} {zs : List Int} (h : Nums w a l c zs) : ∀ ad, a = some ad → 0 < l → ad.block < w.heap.size := fun ad e hl => by
  obtain ⟨b, off, e2, hc⟩ := h.cells hl
  rw [e] at e2
  cases e2
  exact World.block_lt_of_cell? w _ (hc 0 hl)
theorem Nums.below17 {w w' : World} {a : Option Addr} {l c K : Nat} {zs : List Int} (h : Nums w a l c zs) (hb : Below K w w') (hk : ∀ ad, a = some ad → 0 < l → ad.block < K) : Nums w' a l c zs := ⟨h.hlen, h.hcap, h.hmax, fun hp => by
  obtain ⟨b, off, e, hc⟩ := h.cells hp
  exact ⟨b, off, e, fun i hi => (hb.cell (p := ⟨b, off + i, none⟩) (hk ⟨b, off, none⟩ e hp)).trans (hc i hi)⟩, h.digs⟩
/-- Best, under way: the most so far in a variable of its own, and where it was. -/
structure BkAt (X : World) (s K : Nat) (q : Q17) (m : Bool) (p : Option Addr) (k n0 : Nat) (p' : Option Addr) (k' n0' : Nat) (v : Value) (xs : List Int) (W : World) : Prop where
  cell : Cell3 W s m p k n0 p' k' n0'
  fr : FrAt17 W m p k n0 p' k' n0' q
  low : (∀ ad, p = some ad → 0 < k → ad.block < K) ∧ (∀ ad, p' = some ad → 0 < k' → ad.block < K)
  own : IOwn W K v xs
  base : X.heap.size ≤ K ∧ K ≤ W.heap.size
  only : Only (fun b => b = s) X W
  old : s < X.heap.size
theorem BkAt.grow {X : World} {s K : Nat} {q : Q17} {m : Bool} {p : Option Addr} {k n0 : Nat} {p' : Option Addr} {k' n0' : Nat} {v : Value} {xs : List Int} {W W' : World} (h : BkAt X s K q m p k n0 p' k' n0' v xs W) (hb : Below W.heap.size W W') : BkAt X s K q m p k n0 p' k' n0' v xs W' :=
  ⟨h.cell.below hb, h.fr.below hb, h.low, World.ownsRow.kept h.own (grown_of_below hb none) (by cases e : v.ownBlock with | none => exact .inl rfl | some _ => exact .inr (by simp)), ⟨h.base.1, Nat.le_trans h.base.2 hb.size⟩, h.only.trans (Only.of_below (T := fun _ => False) hb) (fun _ e => e.elim), h.old⟩
/-- A new most. -/
theorem BkAt.put {X : World} {s K : Nat} {q q2 : Q17} {m : Bool} {p : Option Addr} {k n0 : Nat} {p' : Option Addr} {k' n0' : Nat} {v : Value} {xs : List Int} {W : World} (h : BkAt X s K q m p k n0 p' k' n0' v xs W) {m1 : Bool} {a1 : Option Addr} {k1 n1 : Nat} {b1 : Option Addr} {k2 n2 : Nat} (hf : FrAt17 W m1 a1 k1 n1 b1 k2 n2 q2) : BkAt X s W.heap.size q2 m1 a1 k1 n1 b1 k2 n2 (.slice none 0 0) [] (((W.setCell ⟨s, 0, none⟩ (.bool m1)).setCell ⟨s, 1, none⟩ (.slice a1 k1 n1)).setCell ⟨s, 2, none⟩ (.slice b1 k2 n2)) := by
  have hlow : (∀ ad, a1 = some ad → 0 < k1 → ad.block < W.heap.size) ∧ (∀ ad, b1 = some ad → 0 < k2 → ad.block < W.heap.size) := by
    obtain ⟨us, vs, u1, u2, -⟩ := hf
    exact ⟨u1.lt17, u2.lt17⟩
  have o : ∀ (W : World) j x, Only (fun b => b = s) W (W.setCell ⟨s, j, none⟩ x) := fun W j x => Only.of_grown (grown_set W s j x) (fun b e => by cases e; rfl)
  exact ⟨h.cell.put m1 a1 b1 k1 n1 k2 n2, FrAt17.put17 hf h.cell, hlow, IOwn.nil _ _, ⟨Nat.le_trans h.base.1 h.base.2, by simp⟩, ((h.only.trans (o _ _ _) (fun b e => .inl e)).trans (o _ _ _) (fun b e => .inl e)).trans (o _ _ _) (fun b e => .inl e), h.old⟩
/-- One place more. -/
theorem BkAt.app {X : World} {s K : Nat} {q : Q17} {m : Bool} {p : Option Addr} {k n0 : Nat} {p' : Option Addr} {k' n0' : Nat} {v v' : Value} {xs xs' : List Int} {W W' : World} (h : BkAt X s K q m p k n0 p' k' n0' v xs W) (hO : IOwn W' K v' xs') (hb : Below K W W') : BkAt X s K q m p k n0 p' k' n0' v' xs' W' := by
  have hs : s < K := Nat.lt_of_lt_of_le h.old h.base.1
  have hc : ∀ j, W'.cell? ⟨s, j, none⟩ = W.cell? ⟨s, j, none⟩ := fun j => World.cell?_of_block (hb.block s hs)
  have hf : ∀ j, W'.frozen? ⟨s, j, none⟩ = W.frozen? ⟨s, j, none⟩ := fun j => by simp only [World.frozen?, hb.block s hs]
  obtain ⟨us, vs, u1, u2, u3⟩ := h.fr
  exact ⟨⟨(hc 0).trans h.cell.c0, (hc 1).trans h.cell.c1, (hc 2).trans h.cell.c2, (hf 0).trans h.cell.f0, (hf 1).trans h.cell.f1, (hf 2).trans h.cell.f2⟩, ⟨us, vs, u1.below17 hb h.low.1, u2.below17 hb h.low.2, u3⟩, h.low, hO, ⟨h.base.1, Nat.le_trans h.base.2 hb.size⟩, h.only.trans (show Only (fun b => K ≤ b) W W' from ⟨hb.os, hb.tape, hb.output, hb.size, fun j _ hn => hb.block j (Nat.lt_of_not_le hn)⟩) (fun b e => .inr (Nat.le_trans h.base.1 e)), h.old⟩
set_option maxRecDepth 100000 in
set_option maxHeartbeats 12800000 in
theorem bx_l2 {x1 x2 x4 x5 x7 x8 x9 x10 x11 x12 x13 x15 x17 x18 x19 x20 x21 x22 x23 x24 x25 x26 x27 x28 x29 x30 x31 x32 x33 x34 x35 x36 x37 x38 x39 x40 x41 x42 x43 x44 x45 x46 x47 x48 x49 x50 x51 x52 x53 x54 x55 x56 x57 x58 x59 x60 x61 x62 x63 x64 x65 x66 x67 x68 x69 x70 x71 x72 x73 x74 x75 x76 x77 x78 x79 x80 x81 x82 x83 x84 x85 x86 x87 x88 x89 x90 x91 x92 x93 x94 x95 x96 x97 x98 x99 x100 x101 x102 x103 x104 x105 x106 x107 x108 x109 x110 x111 x112 x113 x114 x115 x116 x117 x118 x119 x120 x121 x122 x123 x124 x125 : Value} {Q : Exit → Act → World → Prop} {w W : World} {g s n c : Nat} {a : Option Addr} {l γ A B : Int} {ss : List (Int × Int)} {m : Bool} {p : Option Addr} {k n0 : Nat} {p' : Option Addr} {k' n0' : Nat} (hg : SVar w g A B) (h : SRows w a n c ss) (hP : BestArg l γ A B ss) (hl : -9223372036854775808 ≤ l ∧ l < 9223372036854775808) (hw : ∀ W', Only (fun b => b = s) W W' → Below w.heap.size w W') (hJ : BkAt W s W.heap.size (γ, 1) m p k n0 p' k' n0' (.slice none 0 0) [] W)
    (hN : ∀ (v : Value) (xs : List Int) (K : Nat) (wx : World) (y17 y18 y19 y20 y71 y72 y73 y74 y75 y76 y77 y78 y79 y80 y81 y82 y83 y84 y85 y86 y87 y88 y89 y90 y91 y92 y93 y94 y95 y96 y97 y98 y99 y100 y101 y102 y103 y104 y105 y106 y107 y108 y109 y110 y111 y112 y113 y114 y115 y116 y117 y118 y119 y120 y121 y122 y123 y124 : Value), IOwn wx K v xs → IsBest17 ss.length (fBest17 l A B ss) (γ, 1) xs → Below w.heap.size w wx → Q .normal ⟨#[.int .i64 l, x1, x2, .slice a n c, x4, x5, .pointer (some ⟨g, 0, none⟩), x7, x8, x9, x10, x11, x12, x13, .pointer (some ⟨s, 0, none⟩), x15, v, y17, y18, y19, y20, x21, x22, x23, x24, x25, x26, x27, x28, x29, x30, x31, x32, x33, x34, x35, x36, x37, x38, x39, x40, x41, x42, x43, x44, x45, x46, x47, x48, x49, x50, x51, x52, x53, x54, x55, x56, x57, x58, x59, x60, x61, x62, x63, x64, x65, x66, x67, x68, x69, x70, y71, y72, y73, y74, y75, y76, y77, y78, y79, y80, y81, y82, y83, y84, y85, y86, y87, y88, y89, y90, y91, y92, y93, y94, y95, y96, y97, y98, y99, y100, y101, y102, y103, y104, y105, y106, y107, y108, y109, y110, y111, y112, y113, y114, y115, y116, y117, y118, y119, y120, y121, y122, y123, y124, x125], []⟩ wx) :
    Code.wp Tryz.prog ((Tryz.f10.body.bind (pcAt 12)).getD .skip) Q ⟨#[.int .i64 l, x1, x2, .slice a n c, x4, x5, .pointer (some ⟨g, 0, none⟩), x7, x8, x9, x10, x11, x12, x13, .pointer (some ⟨s, 0, none⟩), x15, .slice none 0 0, x17, x18, x19, x20, x21, x22, x23, x24, x25, x26, x27, x28, x29, x30, x31, x32, x33, x34, x35, x36, x37, x38, x39, x40, x41, x42, x43, x44, x45, x46, x47, x48, x49, x50, x51, x52, x53, x54, x55, x56, x57, x58, x59, x60, x61, x62, x63, x64, x65, x66, x67, x68, x69, x70, x71, x72, x73, x74, x75, x76, x77, x78, x79, x80, x81, x82, x83, x84, x85, x86, x87, x88, x89, x90, x91, x92, x93, x94, x95, x96, x97, x98, x99, x100, x101, x102, x103, x104, x105, x106, x107, x108, x109, x110, x111, x112, x113, x114, x115, x116, x117, x118, x119, x120, x121, x122, x123, x124, x125], []⟩ W := by
  conv => arg 2; whnf
  have HN : Hid (∀ (v : Value) (xs : List Int) (K : Nat) (wx : World) (y17 y18 y19 y20 y71 y72 y73 y74 y75 y76 y77 y78 y79 y80 y81 y82 y83 y84 y85 y86 y87 y88 y89 y90 y91 y92 y93 y94 y95 y96 y97 y98 y99 y100 y101 y102 y103 y104 y105 y106 y107 y108 y109 y110 y111 y112 y113 y114 y115 y116 y117 y118 y119 y120 y121 y122 y123 y124 : Value), IOwn wx K v xs → IsBest17 ss.length (fBest17 l A B ss) (γ, 1) xs → Below w.heap.size w wx → Q .normal ⟨#[.int .i64 l, x1, x2, .slice a n c, x4, x5, .pointer (some ⟨g, 0, none⟩), x7, x8, x9, x10, x11, x12, x13, .pointer (some ⟨s, 0, none⟩), x15, v, y17, y18, y19, y20, x21, x22, x23, x24, x25, x26, x27, x28, x29, x30, x31, x32, x33, x34, x35, x36, x37, x38, x39, x40, x41, x42, x43, x44, x45, x46, x47, x48, x49, x50, x51, x52, x53, x54, x55, x56, x57, x58, x59, x60, x61, x62, x63, x64, x65, x66, x67, x68, x69, x70, y71, y72, y73, y74, y75, y76, y77, y78, y79, y80, y81, y82, y83, y84, y85, y86, y87, y88, y89, y90, y91, y92, y93, y94, y95, y96, y97, y98, y99, y100, y101, y102, y103, y104, y105, y106, y107, y108, y109, y110, y111, y112, y113, y114, y115, y116, y117, y118, y119, y120, y121, y122, y123, y124, x125], []⟩ wx) := hN
  clear hN
  have hm := h.hmax
  have hc := h.hcap
  have hlen := h.hlen
  unfold maxLen at hm
  have hpos := hP.pos
  have hfew := hP.few
  refine pcSeq (fun Q1 n1 r1 _ => ?_)
  go_wp2_with fail
  refine n1 _ _ (pcBlock (fun Q2 n2 e2 r2 => ?_))
  go_loopw [16, 17] (fun v16 v17 wr => ∃ (i : Nat) (K : Nat) (q : Q17) (m : Bool) (p : Option Addr) (k n0 : Nat) (p' : Option Addr) (k' n0' : Nat) (xs : List Int), v17 = .int .i64 (i : Int) ∧ i ≤ n ∧ BkAt W s K q m p k n0 p' k' n0' v16 xs wr ∧ Kept17 (fBest17 l A B ss) (γ, 1) i q xs ∧ Fit17 q ∧ xs.length ≤ i) (fun _ v17 _ => n - (intOf v17).toNat)
  case atStart => exact ⟨0, _, _, _, _, _, _, _, _, _, [], rfl, Nat.zero_le _, hJ, Kept17.start hpos, ⟨Nat.one_pos, by have := hP.gam; exact Nat.lt_of_le_of_lt (show γ.natAbs ≤ 1048576 by omega) (by decide), (show (1 : Nat) < 18446744073709551616 ^ 16 by decide)⟩, Nat.le_refl _⟩
  case round =>
    clear hJ
    obtain ⟨i, K, q, m, p, k, n0, p', k', n0', xs, rfl, hi, hJ, hK, hF, hxl⟩ := hrel
    have hbw := hw _ hJ.only
    refine pcSeq (fun Q3 n3 r3 e3 => bx_t13 hi ?_ ?_)
    · intros
      rename_i hlt
      have hiS : i < ss.length := by omega
      refine n3 _ _ (pcSeq (fun Q4 n4 r4 e4 => pcBlock (fun Q5 n5 e5 r5 => ?_)))
      obtain ⟨b, off, x, y, rfl, z0, z1, hxy⟩ := (h.below hbw).at hlt
      have hA := hP.gain hiS
      rw [hxy] at hA
      dsimp only at hA
      have hfi : fBest17 l A B ss i = if 1 ≤ y ∧ 1 ≤ B - y then some (gainQ l x y A B) else none := by unfold fBest17; rw [hxy]
      have s1 := hA.2.1
      have s2 := hA.2.2.1
      refine pcSeq (fun Q6 n6 r6 e6 => bx_p15 (hg.below hbw) z1 hlt ⟨s2.2.2.1, s2.2.2.2⟩ ⟨s1.2.2.1, s1.2.2.2⟩ ?_ ?_)
      · intro w1
        intros
        rename_i hyb hb1
        rw [if_pos hyb] at hfi
        have hq := gainQ_fits17 hA
        have hb1w := bthen hbw hb1
        refine n6 _ _ (pcSeq (fun Q7 n7 r7 e7 => bx_p16 (hg.below hb1w) (bkeep hb1 z0 rfl) (bkeep hb1 z1 rfl) hlt hl hA ?_))
        intro m2 a2 k2 j2 b2 k3 j3 t2 w2
        intros
        rename_i c2 f2 ht2 hb2
        have hJ2 := (hJ.grow hb1).grow hb2
        refine n7 _ _ (pcSeq (fun Q8 n8 r8 e8 => bx_p17 c2 f2 hJ2.cell hJ2.fr hq hF ?_))
        intro t w3
        intros
        rename_i ht hb3
        have hJ3 := hJ2.grow hb3
        refine n8 _ _ (pcSeq (fun Q9 n9 r9 e9 => bx_p18 (c2.below hb3) hJ3.cell ?_ ?_))
        · intros
          rename_i htn
          have hle : le17 (gainQ l x y A B) q := by
            unfold le17
            rw [ht] at htn
            unfold cmpZ at htn
            by_cases c1 : (gainQ l x y A B).1 * (q.2 : Int) < q.1 * ((gainQ l x y A B).2 : Int)
            · omega
            · rw [if_neg c1] at htn
              by_cases c2 : q.1 * ((gainQ l x y A B).2 : Int) < (gainQ l x y A B).1 * (q.2 : Int)
              · rw [if_pos c2] at htn; omega
              · omega
          obtain ⟨oa, oc, ev, -⟩ := hJ3.own.lsts (hK.word17 (by omega))
          rw [ev] at hJ3 ⊢
          refine n9 _ _ (bx_p21 hJ3.own (by omega) hJ3.base.2 ?_ ?_)
          · intros
            rename_i hno
            refine n5 _ _ (n4 _ _ (bx_p14 (by omega) ?_))
            intros
            dsimp only [Exit.then]
            go_roundw
            case rel => exact ⟨i + 1, K, q, m, p, k, n0, p', k', n0', xs, by go_num, hlt, hJ3, hK.less hpos hfi hle (fun hge => by
              have : t = 0 := by
                rw [ht]
                unfold cmpZ
                unfold le17 at hle hge
                rw [if_neg (by omega), if_neg (by omega)]
              have h0 : ¬ 0 < xs.length := fun e => hno (.inr ⟨this, e⟩)
              exact List.eq_nil_of_length_eq_zero (by omega)), hF, by omega⟩
            case measure => simp [intOf]; omega
          · intro v5 w5
            intros
            rename_i hyes hO5 hB5 hX5
            have ht0 : t = 0 ∧ 0 < xs.length := by omega
            have hge : le17 q (gainQ l x y A B) := by
              have := ht0.1
              rw [ht] at this
              unfold cmpZ at this
              unfold le17
              by_cases c1 : (gainQ l x y A B).1 * (q.2 : Int) < q.1 * ((gainQ l x y A B).2 : Int)
              · rw [if_pos c1] at this; omega
              · omega
            have hJ5 := hJ3.app hO5 hB5
            refine n5 _ _ (n4 _ _ (bx_p14 (by omega) ?_))
            intros
            dsimp only [Exit.then]
            go_roundw
            case rel => exact ⟨i + 1, K, q, m, p, k, n0, p', k', n0', xs ++ [(i : Int)], by go_num, hlt, hJ5, hK.same hpos hfi hle hge (fun e => by rw [e] at ht0; simp at ht0), hF, by simp; omega⟩
            case measure => simp [intOf]; omega
        · intros
          rename_i htp
          have hgt : lt17 q (gainQ l x y A B) := by
            unfold lt17
            rw [ht] at htp
            unfold cmpZ at htp
            by_cases c1 : (gainQ l x y A B).1 * (q.2 : Int) < q.1 * ((gainQ l x y A B).2 : Int)
            · rw [if_pos c1] at htp; omega
            · rw [if_neg c1] at htp
              by_cases c2 : q.1 * ((gainQ l x y A B).2 : Int) < (gainQ l x y A B).1 * (q.2 : Int)
              · exact c2
              · rw [if_neg c2] at htp; omega
          have hJ4 := hJ3.put (f2.below hb3)
          refine n9 _ _ (bx_p21 hJ4.own (by simp) hJ4.base.2 ?_ ?_)
          · intros
            rename_i hno
            exact absurd (.inl htp) hno
          · intro v5 w5
            intros
            rename_i hyes hO5 hB5 hX5
            have hJ5 := hJ4.app hO5 hB5
            refine n5 _ _ (n4 _ _ (bx_p14 (by omega) ?_))
            intros
            dsimp only [Exit.then]
            go_roundw
            case rel => exact ⟨i + 1, _, _, _, _, _, _, _, _, _, _, by go_num, hlt, hJ5, hK.more hpos hfi hgt, hq, by simp⟩
            case measure => simp [intOf]; omega
      · intro w1
        intros
        rename_i hyb hb1
        rw [if_neg hyb] at hfi
        refine e6 _ _ _ (e5 _ _ (n4 _ _ (bx_p14 (by omega) ?_)))
        intros
        dsimp only [Exit.then]
        go_roundw
        case rel => exact ⟨i + 1, K, q, m, p, k, n0, p', k', n0', xs, by go_num, hlt, hJ.grow hb1, hK.skip hfi, hF, by omega⟩
        case measure => simp [intOf]; omega
    · intros
      rename_i he
      subst he
      rw [← hlen] at hK
      exact e3 _ _ _ (e2 _ _ (HN.out _ _ _ _ _ _ _ _ _ _ _ _ _ _ _ _ _ _ _ _ _ _ _ _ _ _ _ _ _ _ _ _ _ _ _ _ _ _ _ _ _ _ _ _ _ _ _ _ _ _ _ _ _ _ _ _ _ _ _ _ _ _ hJ.own (hK.best hpos) hbw))

end Go.Proofs.YtchmlfjjgehbkaaGreat

namespace Go.Proofs.YtchmlfjjgehbkaaGreat
open Go.RowKit

set_option maxRecDepth 100000 in
set_option maxHeartbeats 12800000 in
theorem bx_p11 {x0 x1 x2 x3 x4 x5 x6 x7 x8 x9 x10 x11 x12 x13 x14 x15 x16 x17 x18 x19 x20 x21 x22 x23 x24 x25 x26 x27 x28 x29 x30 x31 x32 x33 x34 x35 x36 x37 x38 x39 x40 x41 x42 x43 x44 x45 x46 x47 x48 x49 x50 x51 x52 x53 x54 x55 x56 x57 x58 x59 x60 x61 x62 x63 x64 x65 x66 x67 x68 x69 x70 x71 x72 x73 x74 x75 x76 x77 x78 x79 x80 x81 x82 x83 x84 x85 x86 x87 x88 x89 x90 x91 x92 x93 x94 x95 x96 x97 x98 x99 x100 x101 x102 x103 x104 x105 x106 x107 x108 x109 x110 x111 x112 x113 x114 x115 x116 x117 x118 x119 x120 x121 x122 x123 x124 x125 : Value} {Q : Exit → Act → World → Prop} {W : World} 
    (hN : Q .normal ⟨#[x0, x1, x2, x3, x4, x5, x6, x7, x8, x9, x10, x11, x12, x13, x14, x15, .slice none 0 0, x17, x18, x19, x20, x21, x22, x23, x24, x25, x26, x27, x28, x29, x30, x31, x32, x33, x34, x35, x36, x37, x38, x39, x40, x41, x42, x43, x44, x45, x46, x47, x48, x49, x50, x51, x52, x53, x54, x55, x56, x57, x58, x59, x60, x61, x62, x63, x64, x65, x66, x67, x68, x69, x70, x71, x72, x73, x74, x75, x76, x77, x78, x79, x80, x81, x82, x83, x84, x85, x86, x87, x88, x89, x90, x91, x92, x93, x94, x95, x96, x97, x98, x99, x100, x101, x102, x103, x104, x105, x106, x107, x108, x109, x110, x111, x112, x113, x114, x115, x116, x117, x118, x119, x120, x121, x122, x123, x124, x125], []⟩ W) :
    Code.wp Tryz.prog ((Tryz.f10.body.bind (pcAt 11)).getD .skip) Q ⟨#[x0, x1, x2, x3, x4, x5, x6, x7, x8, x9, x10, x11, x12, x13, x14, x15, x16, x17, x18, x19, x20, x21, x22, x23, x24, x25, x26, x27, x28, x29, x30, x31, x32, x33, x34, x35, x36, x37, x38, x39, x40, x41, x42, x43, x44, x45, x46, x47, x48, x49, x50, x51, x52, x53, x54, x55, x56, x57, x58, x59, x60, x61, x62, x63, x64, x65, x66, x67, x68, x69, x70, x71, x72, x73, x74, x75, x76, x77, x78, x79, x80, x81, x82, x83, x84, x85, x86, x87, x88, x89, x90, x91, x92, x93, x94, x95, x96, x97, x98, x99, x100, x101, x102, x103, x104, x105, x106, x107, x108, x109, x110, x111, x112, x113, x114, x115, x116, x117, x118, x119, x120, x121, x122, x123, x124, x125], []⟩ W := by
  conv => arg 2; whnf
  have HN : Hid (Q .normal ⟨#[x0, x1, x2, x3, x4, x5, x6, x7, x8, x9, x10, x11, x12, x13, x14, x15, .slice none 0 0, x17, x18, x19, x20, x21, x22, x23, x24, x25, x26, x27, x28, x29, x30, x31, x32, x33, x34, x35, x36, x37, x38, x39, x40, x41, x42, x43, x44, x45, x46, x47, x48, x49, x50, x51, x52, x53, x54, x55, x56, x57, x58, x59, x60, x61, x62, x63, x64, x65, x66, x67, x68, x69, x70, x71, x72, x73, x74, x75, x76, x77, x78, x79, x80, x81, x82, x83, x84, x85, x86, x87, x88, x89, x90, x91, x92, x93, x94, x95, x96, x97, x98, x99, x100, x101, x102, x103, x104, x105, x106, x107, x108, x109, x110, x111, x112, x113, x114, x115, x116, x117, x118, x119, x120, x121, x122, x123, x124, x125], []⟩ W) := hN
  clear hN
  go_wp2_with fail
  exact HN.out   

set_option maxRecDepth 100000 in
set_option maxHeartbeats 12800000 in
theorem bx_p23 {x0 x1 x2 x3 x4 x5 x6 x7 x8 x9 x10 x11 x12 x13 x14 x15 x17 x18 x19 x20 x21 x22 x23 x24 x25 x26 x27 x28 x29 x30 x31 x32 x33 x34 x35 x36 x37 x38 x39 x40 x41 x42 x43 x44 x45 x46 x47 x48 x49 x50 x51 x52 x53 x54 x55 x56 x57 x58 x59 x60 x61 x62 x63 x64 x65 x66 x67 x68 x69 x70 x71 x72 x73 x74 x75 x76 x77 x78 x79 x80 x81 x82 x83 x84 x85 x86 x87 x88 x89 x90 x91 x92 x93 x94 x95 x96 x97 x98 x99 x100 x101 x102 x103 x104 x105 x106 x107 x108 x109 x110 x111 x112 x113 x114 x115 x116 x117 x118 x119 x120 x121 x122 x123 x124 x125 : Value} {Q : Exit → Act → World → Prop} {W : World} {oa : Option Addr} {on oc : Nat} 
    (hR : ∀ (y125 : Value), Q .ret ⟨#[x0, x1, x2, x3, x4, x5, x6, x7, .slice oa on oc, .int .i64 0, x10, x11, x12, x13, x14, x15, .slice oa on oc, x17, x18, x19, x20, x21, x22, x23, x24, x25, x26, x27, x28, x29, x30, x31, x32, x33, x34, x35, x36, x37, x38, x39, x40, x41, x42, x43, x44, x45, x46, x47, x48, x49, x50, x51, x52, x53, x54, x55, x56, x57, x58, x59, x60, x61, x62, x63, x64, x65, x66, x67, x68, x69, x70, x71, x72, x73, x74, x75, x76, x77, x78, x79, x80, x81, x82, x83, x84, x85, x86, x87, x88, x89, x90, x91, x92, x93, x94, x95, x96, x97, x98, x99, x100, x101, x102, x103, x104, x105, x106, x107, x108, x109, x110, x111, x112, x113, x114, x115, x116, x117, x118, x119, x120, x121, x122, x123, x124, y125], []⟩ W) :
    Code.wp Tryz.prog ((Tryz.f10.body.bind (pcFrom 23)).getD .skip) Q ⟨#[x0, x1, x2, x3, x4, x5, x6, x7, x8, x9, x10, x11, x12, x13, x14, x15, .slice oa on oc, x17, x18, x19, x20, x21, x22, x23, x24, x25, x26, x27, x28, x29, x30, x31, x32, x33, x34, x35, x36, x37, x38, x39, x40, x41, x42, x43, x44, x45, x46, x47, x48, x49, x50, x51, x52, x53, x54, x55, x56, x57, x58, x59, x60, x61, x62, x63, x64, x65, x66, x67, x68, x69, x70, x71, x72, x73, x74, x75, x76, x77, x78, x79, x80, x81, x82, x83, x84, x85, x86, x87, x88, x89, x90, x91, x92, x93, x94, x95, x96, x97, x98, x99, x100, x101, x102, x103, x104, x105, x106, x107, x108, x109, x110, x111, x112, x113, x114, x115, x116, x117, x118, x119, x120, x121, x122, x123, x124, x125], []⟩ W := by
  conv => arg 2; whnf
  have HR : Hid (∀ (y125 : Value), Q .ret ⟨#[x0, x1, x2, x3, x4, x5, x6, x7, .slice oa on oc, .int .i64 0, x10, x11, x12, x13, x14, x15, .slice oa on oc, x17, x18, x19, x20, x21, x22, x23, x24, x25, x26, x27, x28, x29, x30, x31, x32, x33, x34, x35, x36, x37, x38, x39, x40, x41, x42, x43, x44, x45, x46, x47, x48, x49, x50, x51, x52, x53, x54, x55, x56, x57, x58, x59, x60, x61, x62, x63, x64, x65, x66, x67, x68, x69, x70, x71, x72, x73, x74, x75, x76, x77, x78, x79, x80, x81, x82, x83, x84, x85, x86, x87, x88, x89, x90, x91, x92, x93, x94, x95, x96, x97, x98, x99, x100, x101, x102, x103, x104, x105, x106, x107, x108, x109, x110, x111, x112, x113, x114, x115, x116, x117, x118, x119, x120, x121, x122, x123, x124, y125], []⟩ W) := hR
  clear hR
  go_wp2_with fail
  exact HR.out  _ 

set_option maxRecDepth 100000 in
theorem bx_ret {x0 x1 x2 x3 x4 x5 x6 x7 x10 x11 x12 x13 x14 x15 x16 x17 x18 x19 x20 x21 x22 x23 x24 x25 x26 x27 x28 x29 x30 x31 x32 x33 x34 x35 x36 x37 x38 x39 x40 x41 x42 x43 x44 x45 x46 x47 x48 x49 x50 x51 x52 x53 x54 x55 x56 x57 x58 x59 x60 x61 x62 x63 x64 x65 x66 x67 x68 x69 x70 x71 x72 x73 x74 x75 x76 x77 x78 x79 x80 x81 x82 x83 x84 x85 x86 x87 x88 x89 x90 x91 x92 x93 x94 x95 x96 x97 x98 x99 x100 x101 x102 x103 x104 x105 x106 x107 x108 x109 x110 x111 x112 x113 x114 x115 x116 x117 x118 x119 x120 x121 x122 x123 x124 x125 : Value} {oa : Option Addr} {on oc : Nat} {er : Int} {post : Ending → World → Prop} {W : World} (h : post (.returned (.tuple #[.slice oa on oc, .int .i64 er])) W) : bodyPost Tryz.prog Tryz.f10 post .ret ⟨#[x0, x1, x2, x3, x4, x5, x6, x7, .slice oa on oc, .int .i64 er, x10, x11, x12, x13, x14, x15, x16, x17, x18, x19, x20, x21, x22, x23, x24, x25, x26, x27, x28, x29, x30, x31, x32, x33, x34, x35, x36, x37, x38, x39, x40, x41, x42, x43, x44, x45, x46, x47, x48, x49, x50, x51, x52, x53, x54, x55, x56, x57, x58, x59, x60, x61, x62, x63, x64, x65, x66, x67, x68, x69, x70, x71, x72, x73, x74, x75, x76, x77, x78, x79, x80, x81, x82, x83, x84, x85, x86, x87, x88, x89, x90, x91, x92, x93, x94, x95, x96, x97, x98, x99, x100, x101, x102, x103, x104, x105, x106, x107, x108, x109, x110, x111, x112, x113, x114, x115, x116, x117, x118, x119, x120, x121, x122, x123, x124, x125], []⟩ W :=
  bodyPost_ret (v := .tuple #[.slice oa on oc, .int .i64 er]) (by simp [results, Tryz.results10, go_sem]) rfl h

set_option maxRecDepth 100000 in
set_option maxHeartbeats 3200000 in
theorem r17best_any (l γ A B : Int) (a : Option Addr) (n c : Nat) (ss : List (Int × Int)) (w : World) (hl : -9223372036854775808 ≤ l ∧ l < 9223372036854775808) (h : SRows w a n c ss) : Calls Tryz.prog 10 #[.int .i64 l, .int .i64 γ, .agg #[.int .i64 A, .int .i64 B], .slice a n c] w fun e w' => BesT17 l γ A B ss w e w' := by
  have hlen := h.hlen
  have hb0 := balloc w (.cells #[.int .i64 A, .int .i64 B] 23)
  have s0 : SVar (w.alloc (.cells #[.int .i64 A, .int .i64 B] 23)) w.heap.size A B := heap_alloc_new w _
  have hNo : ∀ W, Below w.heap.size w W → ¬ BestArg l γ A B ss → BesT17 l γ A B ss w (.returned (.tuple #[.slice none 0 0, .int .i64 1])) W := fun W hb hn => ⟨none, 0, 0, [], 1, rfl, Lsts.nil _, .inl ⟨hn, rfl, rfl⟩, hb⟩
  go_enter Tryz.func10, Tryz.ntmps10
  refine pcSeq (fun Q0 n0 r0 _ => bx_p0 ?_)
  intros
  refine n0 _ _ (pcSeq (fun Q1 n1 r1 _ => bx_p1 s0 ?_))
  intro z w1
  intros
  rename_i hz hb1
  have hB1 := bthen hb0 hb1
  refine n1 _ _ (pcSeq (fun Q2 n2 r2 _ => bx_p2 ?_ ?_))
  · intros
    rename_i hzt hrest
    obtain ⟨hg, hlam, hn⟩ := hrest
    have hAB := hz.1 hzt
    refine n2 _ _ (pcSeq (fun Q3 n3 r3 _ => bx_l1 (s0.below hb1) (h.below hB1) hAB ?_ ?_))
    · intro w2
      intros
      rename_i heach hb2
      have hB2 := bthen hB1 hb2
      have hP : BestArg l γ A B ss := ⟨hlam, hg, hAB, by omega, by rw [hlen]; exact heach⟩
      refine n3 _ _ (pcSeq (fun Q4 n4 r4 _ => bx_p10 hg ?_))
      intro m p k n0' p' k' n0'' s w3
      intros
      rename_i hc hf hs hb3
      have hB3 := bthen hB2 hb3
      refine n4 _ _ (pcSeq (fun Q5 n5 r5 _ => bx_p11 ?_))
      intros
      have hsv := (s0.below hb1).below (bthen hb2 hb3)
      have hsw : w.heap.size + 1 ≤ s := by have h1 := hb1.size; have h2 := hb2.size; simp at h1; omega
      have hlow : (∀ ad, p = some ad → 0 < k → ad.block < w3.heap.size) ∧ (∀ ad, p' = some ad → 0 < k' → ad.block < w3.heap.size) := by
        obtain ⟨us, vs, u1, u2, -⟩ := hf
        exact ⟨u1.lt17, u2.lt17⟩
      have hJ : BkAt w3 s w3.heap.size (γ, 1) m p k n0' p' k' n0'' (.slice none 0 0) [] w3 := ⟨hc, hf, hlow, IOwn.nil _ _, ⟨Nat.le_refl _, Nat.le_refl _⟩, Only.refl _ _, hc.lt⟩
      have hW0 : Below (w.alloc (.cells #[.int .i64 A, .int .i64 B] 23)).heap.size (w.alloc (.cells #[.int .i64 A, .int .i64 B] 23)) w3 := bthen hb1 (bthen hb2 hb3)
      have hw : ∀ W', Only (fun b => b = s) w3 W' → Below (w.alloc (.cells #[.int .i64 A, .int .i64 B] 23)).heap.size (w.alloc (.cells #[.int .i64 A, .int .i64 B] 23)) W' := fun W' o => hW0.trans (o.below (fun b e => by rw [e]; simpa using hsw) hW0.size)
      refine n5 _ _ (pcSeq (fun Q6 n6 r6 _ => bx_l2 s0 (h.below hb0) hP hl hw hJ ?_))
      intro v xs K wx
      intros
      rename_i hO hbest hbx
      obtain ⟨oa, oc, rfl, hL, -⟩ := hO.lsts (fun x hx => by
        obtain ⟨j, rfl, h1, -⟩ := (hbest.mem x).1 hx
        have := hP.few
        omega)
      refine n6 _ _ (bx_p23 ?_)
      intros
      exact bx_ret ⟨oa, _, oc, xs, 0, rfl, hL, .inr ⟨hP, rfl, hbest⟩, bthen hb0 hbx⟩
    · intro w2
      intros
      rename_i hno hb2
      exact r3 _ _ (bx_ret (hNo w2 (bthen hB1 hb2) (fun e => hno (by rw [← hlen]; exact e.each))))
  · intros
    rename_i hno
    exact r2 _ _ (bx_ret (hNo w1 hB1 (fun e => hno ⟨hz.2 e.all, e.gam, e.lam, by have := e.few; omega⟩)))
end Go.Proofs.YtchmlfjjgehbkaaGreat

namespace Go.Proofs.YtchmlfjjgehbkaaGreat
open Go.RowKit

def ScoOk17 : Prop := ∀ (l G H : Int) (w : World), (-9223372036854775808 ≤ l ∧ l < 9223372036854775808) → (-9223372036854775808 ≤ G ∧ G < 9223372036854775808) → (-9223372036854775808 ≤ H ∧ H < 9223372036854775808) → Calls Tryz.prog 12 #[.int .i64 l, .agg #[.int .i64 (G), .int .i64 (H)]] w fun e w' => FT17 (ScoreArg l G H) (scoreQ l G H) w e w'
def GaiOk17 : Prop := ∀ (l G H A B : Int) (w : World), (-9223372036854775808 ≤ l ∧ l < 9223372036854775808) → (-9223372036854775808 ≤ G ∧ G < 9223372036854775808) → (-9223372036854775808 ≤ H ∧ H < 9223372036854775808) → (-9223372036854775808 ≤ A ∧ A < 9223372036854775808) → (-9223372036854775808 ≤ B ∧ B < 9223372036854775808) → Calls Tryz.prog 6 #[.int .i64 l, .agg #[.int .i64 (G), .int .i64 (H)], .agg #[.int .i64 (A), .int .i64 (B)]] w fun e w' => FT17 (GainArg l G H A B) (gainQ l G H A B) w e w'
def BesOk17 : Prop := ∀ (l γ A B : Int) (a : Option Addr) (n c : Nat) (ss : List (Int × Int)) (w : World), (-9223372036854775808 ≤ l ∧ l < 9223372036854775808) → (-9223372036854775808 ≤ γ ∧ γ < 9223372036854775808) → (-9223372036854775808 ≤ A ∧ A < 9223372036854775808) → (-9223372036854775808 ≤ B ∧ B < 9223372036854775808) → SRows w a n c ss → Calls Tryz.prog 9 #[.int .i64 l, .int .i64 γ, .agg #[.int .i64 (A), .int .i64 (B)], .slice a n c] w fun e w' => BesT17 l γ A B ss w e w'
/-- What is told of a fraction, in one. -/
def FU17 (P : Prop) (q : Q17) (m : Bool) (us vs : List Int) (err : Int) : Prop := (P ∧ err = 0 ∧ IsW m us (numF q.1 q.2) ∧ IsN vs (denF q.1 q.2)) ∨ (¬ P ∧ err = 1 ∧ m = false ∧ us = [] ∧ vs = [])
theorem FU17.unique {P : Prop} {q : Q17} {m m' : Bool} {us vs us' vs' : List Int} {err err' : Int} (h : FU17 P q m us vs err) (k : FU17 P q m' us' vs' err') : m = m' ∧ us = us' ∧ vs = vs' ∧ err = err' := by
  rcases h with ⟨h0, h1, h2, h3⟩ | ⟨h0, h1, h2, h3, h4⟩ <;> rcases k with ⟨k0, k1, k2, k3⟩ | ⟨k0, k1, k2, k3, k4⟩
  · obtain ⟨e1, e2, e3, -⟩ := (ToldF.good (f := none) rfl h2 h3).unique (ToldF.good rfl k2 k3)
    exact ⟨e1, e2, e3, h1.trans k1.symm⟩
  · exact absurd h0 k0
  · exact absurd k0 h0
  · exact ⟨h2.trans k2.symm, h3.trans k3.symm, h4.trans k4.symm, h1.trans k1.symm⟩
theorem FT17.told {P : Prop} {q : Q17} {w : World} {e : Ending} {w' : World} (h : FT17 P q w e w') : ∃ m p k n p' k' n' us vs err, e = .returned (.tuple #[.agg #[.bool m, .slice p k n, .slice p' k' n'], .int .i64 err]) ∧ Nums w' p k n us ∧ Nums w' p' k' n' vs ∧ FU17 P q m us vs err ∧ Below w.heap.size w w' := by
  by_cases hP : P
  · obtain ⟨m, p, l, c, p', l', c', us, vs, err, he, ⟨h1, h2⟩, ht, hb⟩ := h.1 hP
    rcases ht with ⟨e1, e2, -, -⟩ | ⟨-, ⟨h3, h4⟩, rfl⟩
    · cases e2
    · exact ⟨m, p, l, c, p', l', c', us, vs, 0, he, h1, h2, .inl ⟨hP, rfl, h3, h4⟩, hb⟩
  · obtain ⟨m, p, l, c, p', l', c', us, vs, err, he, ⟨h1, h2⟩, ht, hb⟩ := h.2 hP
    rcases ht with ⟨e1, e2, ⟨rfl, rfl, rfl⟩, rfl⟩ | ⟨e1, -, -⟩
    · cases e2
      exact ⟨_, p, l, c, p', l', c', [], [], _, he, h1, h2, .inr ⟨hP, rfl, rfl, rfl, rfl⟩, hb⟩
    · cases e1
theorem FrAt17.of17 {P : Prop} {q : Q17} {m : Bool} {us vs : List Int} {err : Int} (h : FU17 P q m us vs err) (e0 : err = 0) : P ∧ IsW m us (numF q.1 q.2) ∧ IsN vs (denF q.1 q.2) := by
  rcases h with ⟨h0, -, h2, h3⟩ | ⟨-, h1, -⟩
  · exact ⟨h0, h2, h3⟩
  · omega
end Go.Proofs.YtchmlfjjgehbkaaGreat

namespace Go.Proofs.YtchmlfjjgehbkaaGreat
open Go.RowKit

theorem eight17 : numF (scoreQ 1 4 1).1 (scoreQ 1 4 1).2 = 8 := (show numF 16 2 = 8 ∧ denF 16 2 = 1 from low_of (by decide) (by decide) (by decide) (by decide)).1
theorem told8_17 {m : Bool} {us vs : List Int} {err : Int} (h : FU17 (ScoreArg 1 4 1) (scoreQ 1 4 1) m us vs err) : err = 0 ∧ us = [8] := by
  have hP : ScoreArg 1 4 1 := ⟨⟨by decide, by decide⟩, ⟨by decide, by decide, by decide, by decide⟩⟩
  rcases h with ⟨-, h1, h2, -⟩ | ⟨h0, -⟩
  · rw [eight17] at h2
    exact ⟨h1, (h2.unique (IsW.of (x := 8) (by decide))).2⟩
  · exact absurd hP h0
set_option maxRecDepth 20000 in
set_option maxHeartbeats 12800000 in
theorem awake17_any (OS : ScoOk17) (w : World) : Calls Tryz.prog 5 #[] w fun e w' => e = .returned (.bool true) ∧ Below w.heap.size w w' := by
  have H1 := (show Hid _ from OS 1 4 1 w (by decide) (by decide) (by decide))
  go_enter Tryz.func5, Tryz.ntmps5
  go_wp2_with fail
  refine Calls.mono H1.out ?_
  rintro e w1 hh
  obtain ⟨m1, p1, k1, n1, p1', k1', n1', us, vs, err, rfl, u1, -, hU, hb⟩ := hh.told
  obtain ⟨rfl, rfl⟩ := told8_17 hU
  have hk : k1 = 1 := by have := u1.hlen; simpa using this.symm
  subst hk
  obtain ⟨b, off, rfl, hc⟩ := u1.cells (by omega)
  have x8 : w1.cell? ⟨b, off, none⟩ = some (.int .u64 8) := by have := hc 0 (by omega); simpa using this
  have hba := balloc w1 (.cells #[.bool m1, .slice (some ⟨b, off, none⟩) 1 n1, .slice p1' k1' n1'] 30)
  have y8 := bkeep hba x8 rfl
  have HB : Hid (Below w.heap.size w (w1.alloc (.cells #[.bool m1, .slice (some ⟨b, off, none⟩) 1 n1, .slice p1' k1' n1'] 30))) := bthen hb hba
  have h01 : (0 : Int) < ((1 : Nat) : Int) := by decide
  clear H1 hh hU u1 hc hb hba x8
  go_wp2_with fail
  go_ret
  exact ⟨rfl, HB.out⟩
end Go.Proofs.YtchmlfjjgehbkaaGreat

/-
  BitsetJoins: its statements. Written by mk/p14laws.py.
-/
import Derived.Test.YtfgccldkbolkoaaP14Ja
namespace Go.Proofs.Ytfgccldkbolkoaa
open Go.RowKit

set_option maxRecDepth 100000 in
set_option maxHeartbeats 12800000 in
theorem bj_p13 {x0 x1 x4 x6 x7 x8 x9 x10 x11 x12 x13 x14 x15 x16 x17 x18 x19 x20 x21 x22 x23 x24 x25 x26 x27 x28 x29 x30 x31 x32 x33 x34 x35 x36 x37 x38 x39 x40 x41 x42 x43 x44 x45 x46 x47 x48 x49 x50 x51 x52 x53 x54 x55 x56 x57 x58 x59 x60 x61 x62 x63 x64 x65 x66 x67 x68 x69 x70 x71 x72 x73 x74 x75 x76 x77 x78 x79 x80 x81 x82 x83 x84 x85 x86 x87 x88 x89 x90 x91 x92 x93 x94 x95 x96 : Value} {Q : Exit → Act → World → Prop} {W : World} {A B : Nat} {M K : Int} {a b : Option Addr} {la ca lb cb : Nat} {ws vs : List Int} {g : Nat} {N0 : Int} {p0 : Option Addr} {l0 c0 : Nat} (OK : MinOk14) (hM : -9223372036854775808 ≤ M ∧ M < 9223372036854775808) (hK : -9223372036854775808 ≤ K ∧ K < 9223372036854775808) (ha : SetVar W A M a la ca) (hb : SetVar W B K b lb cb) (hx : Nums W a la ca ws) (hy : Nums W b lb cb vs) (hg : SetVar W g N0 p0 l0 c0)
    (hN : ∀ (N : Int) (a' : Option Addr) (l' c' : Nat) (us : List Int) (err : Int) (wx : World) (y63 y64 y65 y66 y67 y68 : Value), Nums wx a' l' c' us → ResJoin (fun x y => x && !y) M ws K vs N us err → Below W.heap.size W wx → Q .normal ⟨#[x0, x1, .pointer (some ⟨A, 0, none⟩), .pointer (some ⟨B, 0, none⟩), x4, .pointer (some ⟨g, 0, none⟩), .int .i64 err, x7, x8, x9, x10, x11, x12, x13, x14, x15, x16, x17, x18, x19, x20, x21, x22, x23, x24, x25, x26, x27, x28, x29, x30, x31, x32, x33, x34, x35, x36, x37, x38, x39, x40, x41, x42, x43, x44, x45, x46, x47, x48, x49, x50, x51, x52, x53, x54, x55, x56, x57, x58, x59, x60, x61, x62, y63, y64, y65, y66, y67, y68, x69, x70, x71, x72, x73, x74, x75, x76, x77, x78, x79, x80, x81, x82, x83, x84, x85, x86, x87, x88, x89, x90, x91, x92, x93, x94, x95, x96], []⟩ ((wx.setCell ⟨g, 0, none⟩ (.int .i64 N)).setCell ⟨g, 1, none⟩ (.slice a' l' c'))) :
    Code.wp Try.prog ((Try.f4.body.bind (pcAt 13)).getD .skip) Q ⟨#[x0, x1, .pointer (some ⟨A, 0, none⟩), .pointer (some ⟨B, 0, none⟩), x4, .pointer (some ⟨g, 0, none⟩), x6, x7, x8, x9, x10, x11, x12, x13, x14, x15, x16, x17, x18, x19, x20, x21, x22, x23, x24, x25, x26, x27, x28, x29, x30, x31, x32, x33, x34, x35, x36, x37, x38, x39, x40, x41, x42, x43, x44, x45, x46, x47, x48, x49, x50, x51, x52, x53, x54, x55, x56, x57, x58, x59, x60, x61, x62, x63, x64, x65, x66, x67, x68, x69, x70, x71, x72, x73, x74, x75, x76, x77, x78, x79, x80, x81, x82, x83, x84, x85, x86, x87, x88, x89, x90, x91, x92, x93, x94, x95, x96], []⟩ W := by
  conv => arg 2; whnf
  have HN : Hid (∀ (N : Int) (a' : Option Addr) (l' c' : Nat) (us : List Int) (err : Int) (wx : World) (y63 y64 y65 y66 y67 y68 : Value), Nums wx a' l' c' us → ResJoin (fun x y => x && !y) M ws K vs N us err → Below W.heap.size W wx → Q .normal ⟨#[x0, x1, .pointer (some ⟨A, 0, none⟩), .pointer (some ⟨B, 0, none⟩), x4, .pointer (some ⟨g, 0, none⟩), .int .i64 err, x7, x8, x9, x10, x11, x12, x13, x14, x15, x16, x17, x18, x19, x20, x21, x22, x23, x24, x25, x26, x27, x28, x29, x30, x31, x32, x33, x34, x35, x36, x37, x38, x39, x40, x41, x42, x43, x44, x45, x46, x47, x48, x49, x50, x51, x52, x53, x54, x55, x56, x57, x58, x59, x60, x61, x62, y63, y64, y65, y66, y67, y68, x69, x70, x71, x72, x73, x74, x75, x76, x77, x78, x79, x80, x81, x82, x83, x84, x85, x86, x87, x88, x89, x90, x91, x92, x93, x94, x95, x96], []⟩ ((wx.setCell ⟨g, 0, none⟩ (.int .i64 N)).setCell ⟨g, 1, none⟩ (.slice a' l' c'))) := hN
  clear hN
  obtain ⟨a0, a1⟩ := ha.cells
  obtain ⟨b0, b1⟩ := hb.cells
  have HC := (show Hid _ from OK M K a b la ca lb cb ws vs W hM hK hx hy)
  have HGv := (show Hid (SetVar W g N0 p0 l0 c0) from hg)
  clear ha hb hx hy hM hK hg
  go_wp2_with fail
  refine Calls.mono HC.out ?_
  rintro e wx ⟨N, a', l', c', us, err, rfl, h1, h2, h3⟩
  obtain ⟨⟨r0, f0⟩, ⟨r1, f1⟩, -, -⟩ := put2_cells (HGv.out.below h3) (.int .i64 N) (.slice a' l' c')
  have HT : Hid (Nums wx a' l' c' us ∧ ResJoin (fun x y => x && !y) M ws K vs N us err ∧ Below W.heap.size W wx) := ⟨h1, h2, h3⟩
  clear h1 h2 h3 HC a0 a1 b0 b1
  dsimp only
  go_wp2_with fail
  exact HN.out N a' l' c' us err wx _ _ _ _ _ _ HT.out.1 HT.out.2.1 HT.out.2.2

set_option maxRecDepth 100000 in
set_option maxHeartbeats 12800000 in
theorem bj_p14 {x0 x1 x4 x5 x6 x8 x9 x10 x11 x12 x13 x14 x15 x16 x17 x18 x19 x20 x21 x22 x23 x24 x25 x26 x27 x28 x29 x30 x31 x32 x33 x34 x35 x36 x37 x38 x39 x40 x41 x42 x43 x44 x45 x46 x47 x48 x49 x50 x51 x52 x53 x54 x55 x56 x57 x58 x59 x60 x61 x62 x63 x64 x65 x66 x67 x68 x69 x70 x71 x72 x73 x74 x75 x76 x77 x78 x79 x80 x81 x82 x83 x84 x85 x86 x87 x88 x89 x90 x91 x92 x93 x94 x95 x96 : Value} {Q : Exit → Act → World → Prop} {W : World} {A B : Nat} {M K : Int} {a b : Option Addr} {la ca lb cb : Nat} {ws vs : List Int} {g : Nat} {N0 : Int} {p0 : Option Addr} {l0 c0 : Nat}  (hM : -9223372036854775808 ≤ M ∧ M < 9223372036854775808) (hK : -9223372036854775808 ≤ K ∧ K < 9223372036854775808) (ha : SetVar W A M a la ca) (hb : SetVar W B K b lb cb) (hx : Nums W a la ca ws) (hy : Nums W b lb cb vs) (hg : SetVar W g N0 p0 l0 c0)
    (hN : ∀ (N : Int) (a' : Option Addr) (l' c' : Nat) (us : List Int) (err : Int) (wx : World) (y69 y70 y71 y72 y73 y74 : Value), Nums wx a' l' c' us → ResJoin (fun x y => x && !y) M ws K vs N us err → Below W.heap.size W wx → Q .normal ⟨#[x0, x1, .pointer (some ⟨A, 0, none⟩), .pointer (some ⟨B, 0, none⟩), x4, x5, x6, .pointer (some ⟨g, 0, none⟩), .int .i64 err, x9, x10, x11, x12, x13, x14, x15, x16, x17, x18, x19, x20, x21, x22, x23, x24, x25, x26, x27, x28, x29, x30, x31, x32, x33, x34, x35, x36, x37, x38, x39, x40, x41, x42, x43, x44, x45, x46, x47, x48, x49, x50, x51, x52, x53, x54, x55, x56, x57, x58, x59, x60, x61, x62, x63, x64, x65, x66, x67, x68, y69, y70, y71, y72, y73, y74, x75, x76, x77, x78, x79, x80, x81, x82, x83, x84, x85, x86, x87, x88, x89, x90, x91, x92, x93, x94, x95, x96], []⟩ ((wx.setCell ⟨g, 0, none⟩ (.int .i64 N)).setCell ⟨g, 1, none⟩ (.slice a' l' c'))) :
    Code.wp Try.prog ((Try.f4.body.bind (pcAt 14)).getD .skip) Q ⟨#[x0, x1, .pointer (some ⟨A, 0, none⟩), .pointer (some ⟨B, 0, none⟩), x4, x5, x6, .pointer (some ⟨g, 0, none⟩), x8, x9, x10, x11, x12, x13, x14, x15, x16, x17, x18, x19, x20, x21, x22, x23, x24, x25, x26, x27, x28, x29, x30, x31, x32, x33, x34, x35, x36, x37, x38, x39, x40, x41, x42, x43, x44, x45, x46, x47, x48, x49, x50, x51, x52, x53, x54, x55, x56, x57, x58, x59, x60, x61, x62, x63, x64, x65, x66, x67, x68, x69, x70, x71, x72, x73, x74, x75, x76, x77, x78, x79, x80, x81, x82, x83, x84, x85, x86, x87, x88, x89, x90, x91, x92, x93, x94, x95, x96], []⟩ W := by
  conv => arg 2; whnf
  have HN : Hid (∀ (N : Int) (a' : Option Addr) (l' c' : Nat) (us : List Int) (err : Int) (wx : World) (y69 y70 y71 y72 y73 y74 : Value), Nums wx a' l' c' us → ResJoin (fun x y => x && !y) M ws K vs N us err → Below W.heap.size W wx → Q .normal ⟨#[x0, x1, .pointer (some ⟨A, 0, none⟩), .pointer (some ⟨B, 0, none⟩), x4, x5, x6, .pointer (some ⟨g, 0, none⟩), .int .i64 err, x9, x10, x11, x12, x13, x14, x15, x16, x17, x18, x19, x20, x21, x22, x23, x24, x25, x26, x27, x28, x29, x30, x31, x32, x33, x34, x35, x36, x37, x38, x39, x40, x41, x42, x43, x44, x45, x46, x47, x48, x49, x50, x51, x52, x53, x54, x55, x56, x57, x58, x59, x60, x61, x62, x63, x64, x65, x66, x67, x68, y69, y70, y71, y72, y73, y74, x75, x76, x77, x78, x79, x80, x81, x82, x83, x84, x85, x86, x87, x88, x89, x90, x91, x92, x93, x94, x95, x96], []⟩ ((wx.setCell ⟨g, 0, none⟩ (.int .i64 N)).setCell ⟨g, 1, none⟩ (.slice a' l' c'))) := hN
  clear hN
  obtain ⟨a0, a1⟩ := ha.cells
  obtain ⟨b0, b1⟩ := hb.cells
  have HC := (show Hid _ from r14minus_ok M K a b la ca lb cb ws vs W hM hK hx hy)
  have HGv := (show Hid (SetVar W g N0 p0 l0 c0) from hg)
  clear ha hb hx hy hM hK hg
  go_wp2_with fail
  refine Calls.mono HC.out ?_
  rintro e wx ⟨N, a', l', c', us, err, rfl, h1, h2, h3⟩
  obtain ⟨⟨r0, f0⟩, ⟨r1, f1⟩, -, -⟩ := put2_cells (HGv.out.below h3) (.int .i64 N) (.slice a' l' c')
  have HT : Hid (Nums wx a' l' c' us ∧ ResJoin (fun x y => x && !y) M ws K vs N us err ∧ Below W.heap.size W wx) := ⟨h1, h2, h3⟩
  clear h1 h2 h3 HC a0 a1 b0 b1
  dsimp only
  go_wp2_with fail
  exact HN.out N a' l' c' us err wx _ _ _ _ _ _ HT.out.1 HT.out.2.1 HT.out.2.2

set_option maxRecDepth 100000 in
set_option maxHeartbeats 12800000 in
theorem bj_p15 {x0 x1 x2 x3 x4 x6 x8 x9 x10 x11 x12 x13 x14 x15 x16 x17 x18 x19 x20 x21 x22 x23 x24 x25 x26 x27 x28 x29 x30 x31 x32 x33 x34 x35 x36 x37 x38 x39 x40 x41 x42 x43 x44 x45 x46 x47 x48 x49 x50 x51 x52 x53 x54 x55 x56 x57 x58 x59 x60 x61 x62 x63 x64 x65 x66 x67 x68 x69 x70 x71 x72 x73 x74 x75 x76 x77 x78 x79 x80 x81 x82 x83 x84 x85 x86 x87 x88 x89 x90 x91 x92 x93 x94 x95 x96 : Value} {Q : Exit → Act → World → Prop} {W : World} {g h : Nat} {N : Int} {a b : Option Addr} {la ca lb cb : Nat} {ws : List Int} (X0 : W.cell? ⟨g, 0, none⟩ = some (.int .i64 N)) (X1 : W.cell? ⟨g, 1, none⟩ = some (.slice a la ca)) (Y0 : W.cell? ⟨h, 0, none⟩ = some (.int .i64 N)) (Y1 : W.cell? ⟨h, 1, none⟩ = some (.slice b lb cb)) (hx : Nums W a la ca ws) (hy : Nums W b lb cb ws)
    (hN : ∀ (wx : World) (y75 y76 y77 : Value), Below W.heap.size W wx → Q .normal ⟨#[x0, x1, x2, x3, x4, .pointer (some ⟨g, 0, none⟩), x6, .pointer (some ⟨h, 0, none⟩), x8, x9, x10, .bool true, x12, x13, x14, x15, x16, x17, x18, x19, x20, x21, x22, x23, x24, x25, x26, x27, x28, x29, x30, x31, x32, x33, x34, x35, x36, x37, x38, x39, x40, x41, x42, x43, x44, x45, x46, x47, x48, x49, x50, x51, x52, x53, x54, x55, x56, x57, x58, x59, x60, x61, x62, x63, x64, x65, x66, x67, x68, x69, x70, x71, x72, x73, x74, y75, y76, y77, x78, x79, x80, x81, x82, x83, x84, x85, x86, x87, x88, x89, x90, x91, x92, x93, x94, x95, x96], []⟩ wx) :
    Code.wp Try.prog ((Try.f4.body.bind (pcAt 15)).getD .skip) Q ⟨#[x0, x1, x2, x3, x4, .pointer (some ⟨g, 0, none⟩), x6, .pointer (some ⟨h, 0, none⟩), x8, x9, x10, x11, x12, x13, x14, x15, x16, x17, x18, x19, x20, x21, x22, x23, x24, x25, x26, x27, x28, x29, x30, x31, x32, x33, x34, x35, x36, x37, x38, x39, x40, x41, x42, x43, x44, x45, x46, x47, x48, x49, x50, x51, x52, x53, x54, x55, x56, x57, x58, x59, x60, x61, x62, x63, x64, x65, x66, x67, x68, x69, x70, x71, x72, x73, x74, x75, x76, x77, x78, x79, x80, x81, x82, x83, x84, x85, x86, x87, x88, x89, x90, x91, x92, x93, x94, x95, x96], []⟩ W := by
  conv => arg 2; whnf
  have HN : Hid (∀ (wx : World) (y75 y76 y77 : Value), Below W.heap.size W wx → Q .normal ⟨#[x0, x1, x2, x3, x4, .pointer (some ⟨g, 0, none⟩), x6, .pointer (some ⟨h, 0, none⟩), x8, x9, x10, .bool true, x12, x13, x14, x15, x16, x17, x18, x19, x20, x21, x22, x23, x24, x25, x26, x27, x28, x29, x30, x31, x32, x33, x34, x35, x36, x37, x38, x39, x40, x41, x42, x43, x44, x45, x46, x47, x48, x49, x50, x51, x52, x53, x54, x55, x56, x57, x58, x59, x60, x61, x62, x63, x64, x65, x66, x67, x68, x69, x70, x71, x72, x73, x74, y75, y76, y77, x78, x79, x80, x81, x82, x83, x84, x85, x86, x87, x88, x89, x90, x91, x92, x93, x94, x95, x96], []⟩ wx) := hN
  clear hN
  have HC : Hid (Calls Try.prog 8 #[.agg #[.int .i64 N, .slice a la ca], .agg #[.int .i64 N, .slice b lb cb]] W fun e w' => e = .returned (.bool true) ∧ Below W.heap.size W w') := (r14same_any N N a b la ca lb cb ws ws W hx hy).mono fun e w' q => ⟨by rw [q.1]; simp, q.2⟩
  clear hx hy
  go_wp2_with fail
  refine Calls.mono HC.out ?_
  rintro e wx ⟨rfl, h1⟩
  have HT : Hid (Below W.heap.size W wx) := h1
  clear h1 HC X0 X1 Y0 Y1
  dsimp only
  go_wp2_with fail
  exact HN.out wx _ _ _ HT.out

set_option maxRecDepth 100000 in
set_option maxHeartbeats 12800000 in
theorem bj_p16 {x0 x1 x2 x3 x4 x5 x6 x7 x8 x9 x10 x11 x12 x13 x14 x15 x16 x17 x18 x19 x20 x21 x22 x23 x24 x25 x26 x27 x28 x29 x30 x31 x32 x33 x34 x35 x36 x37 x38 x39 x40 x41 x42 x43 x44 x45 x46 x47 x48 x49 x50 x51 x52 x53 x54 x55 x56 x57 x58 x59 x60 x61 x62 x63 x64 x65 x66 x67 x68 x69 x70 x71 x72 x73 x74 x75 x76 x77 x78 x79 x80 x81 x82 x83 x84 x85 x86 x87 x88 x89 x90 x91 x92 x93 x94 x95 x96 : Value} {Q : Exit → Act → World → Prop} {W : World} (OK : OrOk14)
    (hN : ∀ (a : Option Addr) (l c : Nat) (err : Int) (wx : World) (y78 y79 y80 y81 y82 y83 y84 y85 : Value), Below W.heap.size W wx → Q .normal ⟨#[x0, x1, x2, x3, x4, x5, x6, x7, x8, x9, x10, x11, .pointer (some ⟨wx.heap.size, 0, none⟩), .int .i64 err, x14, x15, x16, x17, x18, x19, x20, x21, x22, x23, x24, x25, x26, x27, x28, x29, x30, x31, x32, x33, x34, x35, x36, x37, x38, x39, x40, x41, x42, x43, x44, x45, x46, x47, x48, x49, x50, x51, x52, x53, x54, x55, x56, x57, x58, x59, x60, x61, x62, x63, x64, x65, x66, x67, x68, x69, x70, x71, x72, x73, x74, x75, x76, x77, y78, y79, y80, y81, y82, y83, y84, y85, x86, x87, x88, x89, x90, x91, x92, x93, x94, x95, x96], []⟩ (wx.alloc (.cells #[.int .i64 1, .slice a l c] 25))) :
    Code.wp Try.prog ((Try.f4.body.bind (pcAt 16)).getD .skip) Q ⟨#[x0, x1, x2, x3, x4, x5, x6, x7, x8, x9, x10, x11, x12, x13, x14, x15, x16, x17, x18, x19, x20, x21, x22, x23, x24, x25, x26, x27, x28, x29, x30, x31, x32, x33, x34, x35, x36, x37, x38, x39, x40, x41, x42, x43, x44, x45, x46, x47, x48, x49, x50, x51, x52, x53, x54, x55, x56, x57, x58, x59, x60, x61, x62, x63, x64, x65, x66, x67, x68, x69, x70, x71, x72, x73, x74, x75, x76, x77, x78, x79, x80, x81, x82, x83, x84, x85, x86, x87, x88, x89, x90, x91, x92, x93, x94, x95, x96], []⟩ W := by
  conv => arg 2; whnf
  have HN : Hid (∀ (a : Option Addr) (l c : Nat) (err : Int) (wx : World) (y78 y79 y80 y81 y82 y83 y84 y85 : Value), Below W.heap.size W wx → Q .normal ⟨#[x0, x1, x2, x3, x4, x5, x6, x7, x8, x9, x10, x11, .pointer (some ⟨wx.heap.size, 0, none⟩), .int .i64 err, x14, x15, x16, x17, x18, x19, x20, x21, x22, x23, x24, x25, x26, x27, x28, x29, x30, x31, x32, x33, x34, x35, x36, x37, x38, x39, x40, x41, x42, x43, x44, x45, x46, x47, x48, x49, x50, x51, x52, x53, x54, x55, x56, x57, x58, x59, x60, x61, x62, x63, x64, x65, x66, x67, x68, x69, x70, x71, x72, x73, x74, x75, x76, x77, y78, y79, y80, y81, y82, y83, y84, y85, x86, x87, x88, x89, x90, x91, x92, x93, x94, x95, x96], []⟩ (wx.alloc (.cells #[.int .i64 1, .slice a l c] 25))) := hN
  clear hN
  have hb := bthen (balloc W (.cells #[.int .u64 1] 34)) (balloc (W.alloc (.cells #[.int .u64 1] 34)) (.cells #[.int .u64 0] 34))
  have n1 : Nums ((W.alloc (.cells #[.int .u64 1] 34)).alloc (.cells #[.int .u64 0] 34)) (some ⟨W.heap.size, 0, none⟩) 1 1 [1] := ⟨rfl, Nat.le_refl _, by decide, fun _ => ⟨_, 0, rfl, fun i hi => by
    obtain rfl : i = 0 := by omega
    simp⟩, fun x hx => by simp at hx; omega⟩
  have n2 : Nums ((W.alloc (.cells #[.int .u64 1] 34)).alloc (.cells #[.int .u64 0] 34)) (some ⟨W.heap.size + 1, 0, none⟩) 1 1 [0] := ⟨rfl, Nat.le_refl _, by decide, fun _ => ⟨_, 0, rfl, fun i hi => by
    obtain rfl : i = 0 := by omega
    simp⟩, fun x hx => by simp at hx; omega⟩
  have HC := (show Hid _ from OK 1 1 (some ⟨W.heap.size, 0, none⟩) (some ⟨W.heap.size + 1, 0, none⟩) 1 1 1 1 [1] [0] _ (by decide) (by decide) n1 n2)
  have HB := (show Hid _ from hb)
  clear n1 n2 hb
  go_wp2_with fail
  refine Calls.mono HC.out ?_
  rintro e wx ⟨N, a, l, c, us, err, rfl, h1, h2, h3⟩
  have hN := h2.one
  subst hN
  have HT : Hid (Below W.heap.size W wx) := bthen HB.out h3
  clear h1 h2 h3 HC HB
  dsimp only
  go_wp2_with fail
  exact HN.out a l c err wx _ _ _ _ _ _ _ _ HT.out

set_option maxRecDepth 100000 in
set_option maxHeartbeats 12800000 in
theorem bj_p17 {x0 x1 x2 x3 x4 x5 x7 x9 x10 x13 x14 x15 x16 x17 x18 x19 x20 x21 x22 x23 x24 x25 x26 x27 x28 x29 x30 x31 x32 x33 x34 x35 x36 x37 x38 x39 x40 x41 x42 x43 x44 x45 x46 x47 x48 x49 x50 x51 x52 x53 x54 x55 x56 x57 x58 x59 x60 x61 x62 x63 x64 x65 x66 x67 x68 x69 x70 x71 x72 x73 x74 x75 x76 x77 x78 x79 x80 x81 x82 x83 x84 x85 x86 x87 x88 x89 x90 x91 x92 x93 x94 x95 x96 : Value} {Q : Exit → Act → World → Prop} {W : World} {e : Int} {u : Nat} (cu : W.cell? ⟨u, 0, none⟩ = some (.int .i64 1))
    (hR : ∀ (y86 y87 y88 y89 y90 y91 y92 y93 y94 y95 y96 : Value), Q .ret ⟨#[x0, x1, x2, x3, .bool true, x5, .int .i64 e, x7, .int .i64 e, x9, x10, .bool true, .pointer (some ⟨u, 0, none⟩), x13, x14, x15, x16, x17, x18, x19, x20, x21, x22, x23, x24, x25, x26, x27, x28, x29, x30, x31, x32, x33, x34, x35, x36, x37, x38, x39, x40, x41, x42, x43, x44, x45, x46, x47, x48, x49, x50, x51, x52, x53, x54, x55, x56, x57, x58, x59, x60, x61, x62, x63, x64, x65, x66, x67, x68, x69, x70, x71, x72, x73, x74, x75, x76, x77, x78, x79, x80, x81, x82, x83, x84, x85, y86, y87, y88, y89, y90, y91, y92, y93, y94, y95, y96], []⟩ W) :
    Code.wp Try.prog ((Try.f4.body.bind (pcFrom 17)).getD .skip) Q ⟨#[x0, x1, x2, x3, x4, x5, .int .i64 e, x7, .int .i64 e, x9, x10, .bool true, .pointer (some ⟨u, 0, none⟩), x13, x14, x15, x16, x17, x18, x19, x20, x21, x22, x23, x24, x25, x26, x27, x28, x29, x30, x31, x32, x33, x34, x35, x36, x37, x38, x39, x40, x41, x42, x43, x44, x45, x46, x47, x48, x49, x50, x51, x52, x53, x54, x55, x56, x57, x58, x59, x60, x61, x62, x63, x64, x65, x66, x67, x68, x69, x70, x71, x72, x73, x74, x75, x76, x77, x78, x79, x80, x81, x82, x83, x84, x85, x86, x87, x88, x89, x90, x91, x92, x93, x94, x95, x96], []⟩ W := by
  conv => arg 2; whnf
  have HR : Hid (∀ (y86 y87 y88 y89 y90 y91 y92 y93 y94 y95 y96 : Value), Q .ret ⟨#[x0, x1, x2, x3, .bool true, x5, .int .i64 e, x7, .int .i64 e, x9, x10, .bool true, .pointer (some ⟨u, 0, none⟩), x13, x14, x15, x16, x17, x18, x19, x20, x21, x22, x23, x24, x25, x26, x27, x28, x29, x30, x31, x32, x33, x34, x35, x36, x37, x38, x39, x40, x41, x42, x43, x44, x45, x46, x47, x48, x49, x50, x51, x52, x53, x54, x55, x56, x57, x58, x59, x60, x61, x62, x63, x64, x65, x66, x67, x68, x69, x70, x71, x72, x73, x74, x75, x76, x77, x78, x79, x80, x81, x82, x83, x84, x85, y86, y87, y88, y89, y90, y91, y92, y93, y94, y95, y96], []⟩ W) := hR
  clear hR
  have k2 : (e == e) = true := by simp
  go_wp2_with fail
  exact HR.out  _ _ _ _ _ _ _ _ _ _ _ 

set_option maxRecDepth 100000 in
theorem bj_ret {x0 x1 x2 x3 x5 x6 x7 x8 x9 x10 x11 x12 x13 x14 x15 x16 x17 x18 x19 x20 x21 x22 x23 x24 x25 x26 x27 x28 x29 x30 x31 x32 x33 x34 x35 x36 x37 x38 x39 x40 x41 x42 x43 x44 x45 x46 x47 x48 x49 x50 x51 x52 x53 x54 x55 x56 x57 x58 x59 x60 x61 x62 x63 x64 x65 x66 x67 x68 x69 x70 x71 x72 x73 x74 x75 x76 x77 x78 x79 x80 x81 x82 x83 x84 x85 x86 x87 x88 x89 x90 x91 x92 x93 x94 x95 x96 : Value}  {post : Ending → World → Prop} {W : World} (h : post (.returned (.bool true)) W) : bodyPost Try.prog Try.f4 post .ret ⟨#[x0, x1, x2, x3, .bool true, x5, x6, x7, x8, x9, x10, x11, x12, x13, x14, x15, x16, x17, x18, x19, x20, x21, x22, x23, x24, x25, x26, x27, x28, x29, x30, x31, x32, x33, x34, x35, x36, x37, x38, x39, x40, x41, x42, x43, x44, x45, x46, x47, x48, x49, x50, x51, x52, x53, x54, x55, x56, x57, x58, x59, x60, x61, x62, x63, x64, x65, x66, x67, x68, x69, x70, x71, x72, x73, x74, x75, x76, x77, x78, x79, x80, x81, x82, x83, x84, x85, x86, x87, x88, x89, x90, x91, x92, x93, x94, x95, x96], []⟩ W :=
  bodyPost_ret (v := .bool true) (by simp [results, Try.results4, go_sem]) rfl h

end Go.Proofs.Ytfgccldkbolkoaa

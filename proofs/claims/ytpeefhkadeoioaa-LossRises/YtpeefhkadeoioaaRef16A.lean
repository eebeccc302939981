/-
  The document's configurations: Right. Written by mk/r16a.py.
-/
import Derived.Test.YtpeefhkadeoioaaD16Math
import Derived.Test.YtpeefhkadeoioaaNatB
import Derived.Test.YtpeefhkadeoioaaPieces
import Derived.Test.YtpeefhkadeoioaaW12B
import Derived.Test.YtpeefhkadeoioaaR14A
namespace Go.Proofs.Ytpeefhkadeoioaa
open Go.RowKit

/-- A variable that holds a configuration. -/
def CVar (W : World) (g : Nat) (c : Cfg) : Prop := W.heap[g]? = some (.cells c.vals 23 (0, 0))
theorem CVar.cell {W : World} {g : Nat} {c : Cfg} (h : CVar W g c) : W.cell? ⟨g, 0, none⟩ = some (.int .i64 c.T) ∧ W.cell? ⟨g, 1, none⟩ = some (.int .i64 c.D) ∧ W.cell? ⟨g, 2, none⟩ = some (.int .i64 c.L) ∧ W.cell? ⟨g, 3, none⟩ = some (.int .i64 c.G) ∧ W.cell? ⟨g, 4, none⟩ = some (.int .i64 c.N) ∧ W.cell? ⟨g, 5, none⟩ = some (.int .i64 c.E) ∧ W.cell? ⟨g, 6, none⟩ = some (.int .i64 c.S) ∧ W.cell? ⟨g, 7, none⟩ = some (.int .i64 c.C) := ⟨by rw [cell_of_row _ _ _ _ _ _ h]; rfl, by rw [cell_of_row _ _ _ _ _ _ h]; rfl, by rw [cell_of_row _ _ _ _ _ _ h]; rfl, by rw [cell_of_row _ _ _ _ _ _ h]; rfl, by rw [cell_of_row _ _ _ _ _ _ h]; rfl, by rw [cell_of_row _ _ _ _ _ _ h]; rfl, by rw [cell_of_row _ _ _ _ _ _ h]; rfl, by rw [cell_of_row _ _ _ _ _ _ h]; rfl⟩
theorem CVar.lt {W : World} {g : Nat} {c : Cfg} (h : CVar W g c) : g < W.heap.size := (Array.getElem?_eq_some_iff.1 h).1
theorem CVar.below {W W' : World} {g : Nat} {c : Cfg} (h : CVar W g c) (hb : Below W.heap.size W W') : CVar W' g c := (hb.block g h.lt).trans h
theorem CVar.new (W : World) (c : Cfg) : CVar (W.alloc (.cells #[.int .i64 c.T, .int .i64 c.D, .int .i64 c.L, .int .i64 c.G, .int .i64 c.N, .int .i64 c.E, .int .i64 c.S, .int .i64 c.C] 23)) W.heap.size c := heap_alloc_new _ _
/-- What stands in a configuration's cells, seen through what is read. -/
def RgtT16 (c : Cfg) (w : World) (e : Ending) (w' : World) : Prop := ∃ b, e = .returned (.bool b) ∧ (b = true ↔ CfgOk c) ∧ Below w.heap.size w w'

set_option maxRecDepth 100000 in
set_option maxHeartbeats 12800000 in
theorem rt16_p0 {x1 x2 x3 x4 x5 x6 x7 x8 x9 x10 x11 x12 x13 x14 x15 x16 x17 x18 x19 x20 x21 x22 x23 x24 x25 x26 x27 x28 x29 x30 x31 x32 x33 x34 x35 x36 x37 x38 x39 x40 x41 x42 x43 x44 x45 x46 x47 x48 x49 x50 x51 x52 x53 x54 x55 x56 x57 x58 x59 x60 x61 x62 x63 x64 x65 x66 x67 x68 x69 x70 x71 x72 x73 x74 x75 x76 x77 x78 x79 x80 x81 x82 x83 : Value} {Q : Exit → Act → World → Prop} {W : World} {c : Cfg} 
    (hN : Q .normal ⟨#[.agg #[.int .i64 c.T, .int .i64 c.D, .int .i64 c.L, .int .i64 c.G, .int .i64 c.N, .int .i64 c.E, .int .i64 c.S, .int .i64 c.C], .pointer (some ⟨W.heap.size, 0, none⟩), .bool false, x3, x4, x5, x6, x7, x8, x9, x10, x11, x12, x13, x14, x15, x16, x17, x18, x19, x20, x21, x22, x23, x24, x25, x26, x27, x28, x29, x30, x31, x32, x33, x34, x35, x36, x37, x38, x39, x40, x41, x42, x43, x44, x45, x46, x47, x48, x49, x50, x51, x52, x53, x54, x55, x56, x57, x58, x59, x60, x61, x62, x63, x64, x65, x66, x67, x68, x69, x70, x71, x72, x73, x74, x75, x76, x77, x78, x79, x80, x81, x82, x83], []⟩ (W.alloc (.cells #[.int .i64 c.T, .int .i64 c.D, .int .i64 c.L, .int .i64 c.G, .int .i64 c.N, .int .i64 c.E, .int .i64 c.S, .int .i64 c.C] 23))) :
    Code.wp Try.prog ((Try.f10.body.bind (pcAt 0)).getD .skip) Q ⟨#[.agg #[.int .i64 c.T, .int .i64 c.D, .int .i64 c.L, .int .i64 c.G, .int .i64 c.N, .int .i64 c.E, .int .i64 c.S, .int .i64 c.C], x1, x2, x3, x4, x5, x6, x7, x8, x9, x10, x11, x12, x13, x14, x15, x16, x17, x18, x19, x20, x21, x22, x23, x24, x25, x26, x27, x28, x29, x30, x31, x32, x33, x34, x35, x36, x37, x38, x39, x40, x41, x42, x43, x44, x45, x46, x47, x48, x49, x50, x51, x52, x53, x54, x55, x56, x57, x58, x59, x60, x61, x62, x63, x64, x65, x66, x67, x68, x69, x70, x71, x72, x73, x74, x75, x76, x77, x78, x79, x80, x81, x82, x83], []⟩ W := by
  conv => arg 2; whnf
  have HN : Hid (Q .normal ⟨#[.agg #[.int .i64 c.T, .int .i64 c.D, .int .i64 c.L, .int .i64 c.G, .int .i64 c.N, .int .i64 c.E, .int .i64 c.S, .int .i64 c.C], .pointer (some ⟨W.heap.size, 0, none⟩), .bool false, x3, x4, x5, x6, x7, x8, x9, x10, x11, x12, x13, x14, x15, x16, x17, x18, x19, x20, x21, x22, x23, x24, x25, x26, x27, x28, x29, x30, x31, x32, x33, x34, x35, x36, x37, x38, x39, x40, x41, x42, x43, x44, x45, x46, x47, x48, x49, x50, x51, x52, x53, x54, x55, x56, x57, x58, x59, x60, x61, x62, x63, x64, x65, x66, x67, x68, x69, x70, x71, x72, x73, x74, x75, x76, x77, x78, x79, x80, x81, x82, x83], []⟩ (W.alloc (.cells #[.int .i64 c.T, .int .i64 c.D, .int .i64 c.L, .int .i64 c.G, .int .i64 c.N, .int .i64 c.E, .int .i64 c.S, .int .i64 c.C] 23))) := hN
  clear hN
  go_wp2_with fail
  exact HN.out   

set_option maxRecDepth 100000 in
set_option maxHeartbeats 12800000 in
theorem rt16_p1 {x0 x2 x3 x4 x5 x6 x7 x8 x9 x10 x11 x12 x13 x14 x15 x16 x17 x18 x19 x20 x21 x22 x23 x24 x25 x26 x27 x28 x29 x30 x31 x32 x33 x34 x35 x36 x37 x38 x39 x40 x41 x42 x43 x44 x45 x46 x47 x48 x49 x50 x51 x52 x53 x54 x55 x56 x57 x58 x59 x60 x61 x62 x63 x64 x65 x66 x67 x68 x69 x70 x71 x72 x73 x74 x75 x76 x77 x78 x79 x80 x81 x82 x83 : Value} {Q : Exit → Act → World → Prop} {W : World} {g : Nat} {c : Cfg} (hv : CVar W g c)
    (hN : ∀ (y2 y3 y4 y5 y6 y7 y8 y9 y10 y11 y12 y13 y14 y15 y16 y17 y18 y19 y20 y21 y22 y23 y24 y25 y26 y27 y28 y29 y30 y31 y32 y33 y34 y35 y36 y37 y38 y39 y40 : Value), 1 ≤ c.T → c.T ≤ 16 → 1 ≤ c.D → c.D ≤ 5 → 1 ≤ c.L → c.L ≤ 1048576 → 0 ≤ c.G → c.G ≤ 1048576 → Q .normal ⟨#[x0, .pointer (some ⟨g, 0, none⟩), y2, y3, y4, y5, y6, y7, y8, y9, y10, y11, y12, y13, y14, y15, y16, y17, y18, y19, y20, y21, y22, y23, y24, y25, y26, y27, y28, y29, y30, y31, y32, y33, y34, y35, y36, y37, y38, y39, y40, x41, x42, x43, x44, x45, x46, x47, x48, x49, x50, x51, x52, x53, x54, x55, x56, x57, x58, x59, x60, x61, x62, x63, x64, x65, x66, x67, x68, x69, x70, x71, x72, x73, x74, x75, x76, x77, x78, x79, x80, x81, x82, x83], []⟩ W)
    (hR : ∀ (y3 y4 y5 y6 y7 y8 y9 y10 y11 y12 y13 y14 y15 y16 y17 y18 y19 y20 y21 y22 y23 y24 y25 y26 y27 y28 y29 y30 y31 y32 y33 y34 y35 y36 y37 y38 y39 y40 : Value), ¬ CfgOk c → Q .ret ⟨#[x0, .pointer (some ⟨g, 0, none⟩), .bool false, y3, y4, y5, y6, y7, y8, y9, y10, y11, y12, y13, y14, y15, y16, y17, y18, y19, y20, y21, y22, y23, y24, y25, y26, y27, y28, y29, y30, y31, y32, y33, y34, y35, y36, y37, y38, y39, y40, x41, x42, x43, x44, x45, x46, x47, x48, x49, x50, x51, x52, x53, x54, x55, x56, x57, x58, x59, x60, x61, x62, x63, x64, x65, x66, x67, x68, x69, x70, x71, x72, x73, x74, x75, x76, x77, x78, x79, x80, x81, x82, x83], []⟩ W) :
    Code.wp Try.prog ((Try.f10.body.bind (pcAt 1)).getD .skip) Q ⟨#[x0, .pointer (some ⟨g, 0, none⟩), x2, x3, x4, x5, x6, x7, x8, x9, x10, x11, x12, x13, x14, x15, x16, x17, x18, x19, x20, x21, x22, x23, x24, x25, x26, x27, x28, x29, x30, x31, x32, x33, x34, x35, x36, x37, x38, x39, x40, x41, x42, x43, x44, x45, x46, x47, x48, x49, x50, x51, x52, x53, x54, x55, x56, x57, x58, x59, x60, x61, x62, x63, x64, x65, x66, x67, x68, x69, x70, x71, x72, x73, x74, x75, x76, x77, x78, x79, x80, x81, x82, x83], []⟩ W := by
  conv => arg 2; whnf
  have HN : Hid (∀ (y2 y3 y4 y5 y6 y7 y8 y9 y10 y11 y12 y13 y14 y15 y16 y17 y18 y19 y20 y21 y22 y23 y24 y25 y26 y27 y28 y29 y30 y31 y32 y33 y34 y35 y36 y37 y38 y39 y40 : Value), 1 ≤ c.T → c.T ≤ 16 → 1 ≤ c.D → c.D ≤ 5 → 1 ≤ c.L → c.L ≤ 1048576 → 0 ≤ c.G → c.G ≤ 1048576 → Q .normal ⟨#[x0, .pointer (some ⟨g, 0, none⟩), y2, y3, y4, y5, y6, y7, y8, y9, y10, y11, y12, y13, y14, y15, y16, y17, y18, y19, y20, y21, y22, y23, y24, y25, y26, y27, y28, y29, y30, y31, y32, y33, y34, y35, y36, y37, y38, y39, y40, x41, x42, x43, x44, x45, x46, x47, x48, x49, x50, x51, x52, x53, x54, x55, x56, x57, x58, x59, x60, x61, x62, x63, x64, x65, x66, x67, x68, x69, x70, x71, x72, x73, x74, x75, x76, x77, x78, x79, x80, x81, x82, x83], []⟩ W) := hN
  have HR : Hid (∀ (y3 y4 y5 y6 y7 y8 y9 y10 y11 y12 y13 y14 y15 y16 y17 y18 y19 y20 y21 y22 y23 y24 y25 y26 y27 y28 y29 y30 y31 y32 y33 y34 y35 y36 y37 y38 y39 y40 : Value), ¬ CfgOk c → Q .ret ⟨#[x0, .pointer (some ⟨g, 0, none⟩), .bool false, y3, y4, y5, y6, y7, y8, y9, y10, y11, y12, y13, y14, y15, y16, y17, y18, y19, y20, y21, y22, y23, y24, y25, y26, y27, y28, y29, y30, y31, y32, y33, y34, y35, y36, y37, y38, y39, y40, x41, x42, x43, x44, x45, x46, x47, x48, x49, x50, x51, x52, x53, x54, x55, x56, x57, x58, x59, x60, x61, x62, x63, x64, x65, x66, x67, x68, x69, x70, x71, x72, x73, x74, x75, x76, x77, x78, x79, x80, x81, x82, x83], []⟩ W) := hR
  clear hN hR
  obtain ⟨x0, x1, x2, x3, -, -, -, -⟩ := hv.cell
  by_cases h0 : c.T < 1
  · have d0 : decide (c.T < 1) = true := decide_eq_true h0
    have HX : Hid (¬ CfgOk c) := fun e => by have := e.t; omega
    clear HN hv h0
    go_wp2_with fail
    exact HR.out  _ _ _ _ _ _ _ _ _ _ _ _ _ _ _ _ _ _ _ _ _ _ _ _ _ _ _ _ _ _ _ _ _ _ _ _ _ _ HX.out
  have d0 : decide (c.T < 1) = false := decide_eq_false h0
  by_cases h1 : 16 < c.T
  · have d1 : decide (16 < c.T) = true := decide_eq_true h1
    have HX : Hid (¬ CfgOk c) := fun e => by have := e.t; omega
    clear HN hv h0 h1
    go_wp2_with fail
    exact HR.out  _ _ _ _ _ _ _ _ _ _ _ _ _ _ _ _ _ _ _ _ _ _ _ _ _ _ _ _ _ _ _ _ _ _ _ _ _ _ HX.out
  have d1 : decide (16 < c.T) = false := decide_eq_false h1
  by_cases h2 : c.D < 1
  · have d2 : decide (c.D < 1) = true := decide_eq_true h2
    have HX : Hid (¬ CfgOk c) := fun e => by have := e.d; omega
    clear HN hv h0 h1 h2
    go_wp2_with fail
    exact HR.out  _ _ _ _ _ _ _ _ _ _ _ _ _ _ _ _ _ _ _ _ _ _ _ _ _ _ _ _ _ _ _ _ _ _ _ _ _ _ HX.out
  have d2 : decide (c.D < 1) = false := decide_eq_false h2
  by_cases h3 : 5 < c.D
  · have d3 : decide (5 < c.D) = true := decide_eq_true h3
    have HX : Hid (¬ CfgOk c) := fun e => by have := e.d; omega
    clear HN hv h0 h1 h2 h3
    go_wp2_with fail
    exact HR.out  _ _ _ _ _ _ _ _ _ _ _ _ _ _ _ _ _ _ _ _ _ _ _ _ _ _ _ _ _ _ _ _ _ _ _ _ _ _ HX.out
  have d3 : decide (5 < c.D) = false := decide_eq_false h3
  by_cases h4 : c.L < 1
  · have d4 : decide (c.L < 1) = true := decide_eq_true h4
    have HX : Hid (¬ CfgOk c) := fun e => by have := e.l; omega
    clear HN hv h0 h1 h2 h3 h4
    go_wp2_with fail
    exact HR.out  _ _ _ _ _ _ _ _ _ _ _ _ _ _ _ _ _ _ _ _ _ _ _ _ _ _ _ _ _ _ _ _ _ _ _ _ _ _ HX.out
  have d4 : decide (c.L < 1) = false := decide_eq_false h4
  by_cases h5 : 1048576 < c.L
  · have d5 : decide (1048576 < c.L) = true := decide_eq_true h5
    have HX : Hid (¬ CfgOk c) := fun e => by have := e.l; omega
    clear HN hv h0 h1 h2 h3 h4 h5
    go_wp2_with fail
    exact HR.out  _ _ _ _ _ _ _ _ _ _ _ _ _ _ _ _ _ _ _ _ _ _ _ _ _ _ _ _ _ _ _ _ _ _ _ _ _ _ HX.out
  have d5 : decide (1048576 < c.L) = false := decide_eq_false h5
  by_cases h6 : c.G < 0
  · have d6 : decide (c.G < 0) = true := decide_eq_true h6
    have HX : Hid (¬ CfgOk c) := fun e => by have := e.g; omega
    clear HN hv h0 h1 h2 h3 h4 h5 h6
    go_wp2_with fail
    exact HR.out  _ _ _ _ _ _ _ _ _ _ _ _ _ _ _ _ _ _ _ _ _ _ _ _ _ _ _ _ _ _ _ _ _ _ _ _ _ _ HX.out
  have d6 : decide (c.G < 0) = false := decide_eq_false h6
  by_cases h7 : 1048576 < c.G
  · have d7 : decide (1048576 < c.G) = true := decide_eq_true h7
    have HX : Hid (¬ CfgOk c) := fun e => by have := e.g; omega
    clear HN hv h0 h1 h2 h3 h4 h5 h6 h7
    go_wp2_with fail
    exact HR.out  _ _ _ _ _ _ _ _ _ _ _ _ _ _ _ _ _ _ _ _ _ _ _ _ _ _ _ _ _ _ _ _ _ _ _ _ _ _ HX.out
  have d7 : decide (1048576 < c.G) = false := decide_eq_false h7
  have HX : Hid (1 ≤ c.T ∧ c.T ≤ 16 ∧ 1 ≤ c.D ∧ c.D ≤ 5 ∧ 1 ≤ c.L ∧ c.L ≤ 1048576 ∧ 0 ≤ c.G ∧ c.G ≤ 1048576) := by show 1 ≤ c.T ∧ c.T ≤ 16 ∧ 1 ≤ c.D ∧ c.D ≤ 5 ∧ 1 ≤ c.L ∧ c.L ≤ 1048576 ∧ 0 ≤ c.G ∧ c.G ≤ 1048576; omega
  clear HR hv h0 h1 h2 h3 h4 h5 h6 h7
  go_wp2_with fail
  exact HN.out  _ _ _ _ _ _ _ _ _ _ _ _ _ _ _ _ _ _ _ _ _ _ _ _ _ _ _ _ _ _ _ _ _ _ _ _ _ _ _ HX.out.1 HX.out.2.1 HX.out.2.2.1 HX.out.2.2.2.1 HX.out.2.2.2.2.1 HX.out.2.2.2.2.2.1 HX.out.2.2.2.2.2.2.1 HX.out.2.2.2.2.2.2.2

set_option maxRecDepth 100000 in
set_option maxHeartbeats 12800000 in
theorem rt16_p3 {x0 x2 x3 x4 x5 x6 x7 x8 x9 x10 x11 x12 x13 x14 x15 x16 x17 x18 x19 x20 x21 x22 x23 x24 x25 x26 x27 x28 x29 x30 x31 x32 x33 x34 x35 x36 x37 x38 x39 x40 x41 x42 x43 x44 x45 x46 x47 x48 x49 x50 x51 x52 x53 x54 x55 x56 x57 x58 x59 x60 x61 x62 x63 x64 x65 x66 x67 x68 x69 x70 x71 x72 x73 x74 x75 x76 x77 x78 x79 x80 x81 x82 x83 : Value} {Q : Exit → Act → World → Prop} {W : World} {g : Nat} {c : Cfg} (hv : CVar W g c)
    (hN : ∀ (y2 y41 y42 y43 y44 y45 y46 y47 y48 y49 y50 y51 y52 y53 y54 y55 y56 y57 y58 y59 y60 : Value), 1 ≤ c.E → c.E ≤ 1048576 → 1 ≤ c.N → c.N ≤ c.E → Q .normal ⟨#[x0, .pointer (some ⟨g, 0, none⟩), y2, x3, x4, x5, x6, x7, x8, x9, x10, x11, x12, x13, x14, x15, x16, x17, x18, x19, x20, x21, x22, x23, x24, x25, x26, x27, x28, x29, x30, x31, x32, x33, x34, x35, x36, x37, x38, x39, x40, y41, y42, y43, y44, y45, y46, y47, y48, y49, y50, y51, y52, y53, y54, y55, y56, y57, y58, y59, y60, x61, x62, x63, x64, x65, x66, x67, x68, x69, x70, x71, x72, x73, x74, x75, x76, x77, x78, x79, x80, x81, x82, x83], []⟩ W)
    (hR : ∀ (y41 y42 y43 y44 y45 y46 y47 y48 y49 y50 y51 y52 y53 y54 y55 y56 y57 y58 y59 y60 : Value), ¬ CfgOk c → Q .ret ⟨#[x0, .pointer (some ⟨g, 0, none⟩), .bool false, x3, x4, x5, x6, x7, x8, x9, x10, x11, x12, x13, x14, x15, x16, x17, x18, x19, x20, x21, x22, x23, x24, x25, x26, x27, x28, x29, x30, x31, x32, x33, x34, x35, x36, x37, x38, x39, x40, y41, y42, y43, y44, y45, y46, y47, y48, y49, y50, y51, y52, y53, y54, y55, y56, y57, y58, y59, y60, x61, x62, x63, x64, x65, x66, x67, x68, x69, x70, x71, x72, x73, x74, x75, x76, x77, x78, x79, x80, x81, x82, x83], []⟩ W) :
    Code.wp Try.prog ((Try.f10.body.bind (pcAt 3)).getD .skip) Q ⟨#[x0, .pointer (some ⟨g, 0, none⟩), x2, x3, x4, x5, x6, x7, x8, x9, x10, x11, x12, x13, x14, x15, x16, x17, x18, x19, x20, x21, x22, x23, x24, x25, x26, x27, x28, x29, x30, x31, x32, x33, x34, x35, x36, x37, x38, x39, x40, x41, x42, x43, x44, x45, x46, x47, x48, x49, x50, x51, x52, x53, x54, x55, x56, x57, x58, x59, x60, x61, x62, x63, x64, x65, x66, x67, x68, x69, x70, x71, x72, x73, x74, x75, x76, x77, x78, x79, x80, x81, x82, x83], []⟩ W := by
  conv => arg 2; whnf
  have HN : Hid (∀ (y2 y41 y42 y43 y44 y45 y46 y47 y48 y49 y50 y51 y52 y53 y54 y55 y56 y57 y58 y59 y60 : Value), 1 ≤ c.E → c.E ≤ 1048576 → 1 ≤ c.N → c.N ≤ c.E → Q .normal ⟨#[x0, .pointer (some ⟨g, 0, none⟩), y2, x3, x4, x5, x6, x7, x8, x9, x10, x11, x12, x13, x14, x15, x16, x17, x18, x19, x20, x21, x22, x23, x24, x25, x26, x27, x28, x29, x30, x31, x32, x33, x34, x35, x36, x37, x38, x39, x40, y41, y42, y43, y44, y45, y46, y47, y48, y49, y50, y51, y52, y53, y54, y55, y56, y57, y58, y59, y60, x61, x62, x63, x64, x65, x66, x67, x68, x69, x70, x71, x72, x73, x74, x75, x76, x77, x78, x79, x80, x81, x82, x83], []⟩ W) := hN
  have HR : Hid (∀ (y41 y42 y43 y44 y45 y46 y47 y48 y49 y50 y51 y52 y53 y54 y55 y56 y57 y58 y59 y60 : Value), ¬ CfgOk c → Q .ret ⟨#[x0, .pointer (some ⟨g, 0, none⟩), .bool false, x3, x4, x5, x6, x7, x8, x9, x10, x11, x12, x13, x14, x15, x16, x17, x18, x19, x20, x21, x22, x23, x24, x25, x26, x27, x28, x29, x30, x31, x32, x33, x34, x35, x36, x37, x38, x39, x40, y41, y42, y43, y44, y45, y46, y47, y48, y49, y50, y51, y52, y53, y54, y55, y56, y57, y58, y59, y60, x61, x62, x63, x64, x65, x66, x67, x68, x69, x70, x71, x72, x73, x74, x75, x76, x77, x78, x79, x80, x81, x82, x83], []⟩ W) := hR
  clear hN hR
  obtain ⟨-, -, -, -, x4, x5, -, -⟩ := hv.cell
  by_cases h0 : c.E < 1
  · have d0 : decide (c.E < 1) = true := decide_eq_true h0
    have HX : Hid (¬ CfgOk c) := fun e => by have := e.e; omega
    clear HN hv h0
    go_wp2_with fail
    exact HR.out  _ _ _ _ _ _ _ _ _ _ _ _ _ _ _ _ _ _ _ _ HX.out
  have d0 : decide (c.E < 1) = false := decide_eq_false h0
  by_cases h1 : 1048576 < c.E
  · have d1 : decide (1048576 < c.E) = true := decide_eq_true h1
    have HX : Hid (¬ CfgOk c) := fun e => by have := e.e; omega
    clear HN hv h0 h1
    go_wp2_with fail
    exact HR.out  _ _ _ _ _ _ _ _ _ _ _ _ _ _ _ _ _ _ _ _ HX.out
  have d1 : decide (1048576 < c.E) = false := decide_eq_false h1
  by_cases h2 : c.N < 1
  · have d2 : decide (c.N < 1) = true := decide_eq_true h2
    have HX : Hid (¬ CfgOk c) := fun e => by have := e.n; omega
    clear HN hv h0 h1 h2
    go_wp2_with fail
    exact HR.out  _ _ _ _ _ _ _ _ _ _ _ _ _ _ _ _ _ _ _ _ HX.out
  have d2 : decide (c.N < 1) = false := decide_eq_false h2
  by_cases h3 : c.E < c.N
  · have d3 : decide (c.E < c.N) = true := decide_eq_true h3
    have HX : Hid (¬ CfgOk c) := fun e => by have := e.n; omega
    clear HN hv h0 h1 h2 h3
    go_wp2_with fail
    exact HR.out  _ _ _ _ _ _ _ _ _ _ _ _ _ _ _ _ _ _ _ _ HX.out
  have d3 : decide (c.E < c.N) = false := decide_eq_false h3
  have HX : Hid (1 ≤ c.E ∧ c.E ≤ 1048576 ∧ 1 ≤ c.N ∧ c.N ≤ c.E) := by show 1 ≤ c.E ∧ c.E ≤ 1048576 ∧ 1 ≤ c.N ∧ c.N ≤ c.E; omega
  clear HR hv h0 h1 h2 h3
  go_wp2_with fail
  exact HN.out  _ _ _ _ _ _ _ _ _ _ _ _ _ _ _ _ _ _ _ _ _ HX.out.1 HX.out.2.1 HX.out.2.2.1 HX.out.2.2.2

set_option maxRecDepth 100000 in
set_option maxHeartbeats 12800000 in
theorem rt16_p5 {x0 x2 x3 x4 x5 x6 x7 x8 x9 x10 x11 x12 x13 x14 x15 x16 x17 x18 x19 x20 x21 x22 x23 x24 x25 x26 x27 x28 x29 x30 x31 x32 x33 x34 x35 x36 x37 x38 x39 x40 x41 x42 x43 x44 x45 x46 x47 x48 x49 x50 x51 x52 x53 x54 x55 x56 x57 x58 x59 x60 x61 x62 x63 x64 x65 x66 x67 x68 x69 x70 x71 x72 x73 x74 x75 x76 x77 x78 x79 x80 x81 x82 x83 : Value} {Q : Exit → Act → World → Prop} {W : World} {g : Nat} {c : Cfg} (hv : CVar W g c)
    (hN : ∀ (z : Bool) (y61 y62 y63 y64 y65 y66 y67 y68 y69 y70 y71 y72 y73 y74 y75 y76 y77 y78 y79 y80 y81 y82 y83 : Value), (z = true ↔ ((c.S = 0 ∧ c.C = 0) ∨ (c.S = 1 ∧ 1 ≤ c.C ∧ c.C ≤ 1048576))) → Q .normal ⟨#[x0, .pointer (some ⟨g, 0, none⟩), .bool z, x3, x4, x5, x6, x7, x8, x9, x10, x11, x12, x13, x14, x15, x16, x17, x18, x19, x20, x21, x22, x23, x24, x25, x26, x27, x28, x29, x30, x31, x32, x33, x34, x35, x36, x37, x38, x39, x40, x41, x42, x43, x44, x45, x46, x47, x48, x49, x50, x51, x52, x53, x54, x55, x56, x57, x58, x59, x60, y61, y62, y63, y64, y65, y66, y67, y68, y69, y70, y71, y72, y73, y74, y75, y76, y77, y78, y79, y80, y81, y82, y83], []⟩ W) :
    Code.wp Try.prog ((Try.f10.body.bind (pcAt 5)).getD .skip) Q ⟨#[x0, .pointer (some ⟨g, 0, none⟩), x2, x3, x4, x5, x6, x7, x8, x9, x10, x11, x12, x13, x14, x15, x16, x17, x18, x19, x20, x21, x22, x23, x24, x25, x26, x27, x28, x29, x30, x31, x32, x33, x34, x35, x36, x37, x38, x39, x40, x41, x42, x43, x44, x45, x46, x47, x48, x49, x50, x51, x52, x53, x54, x55, x56, x57, x58, x59, x60, x61, x62, x63, x64, x65, x66, x67, x68, x69, x70, x71, x72, x73, x74, x75, x76, x77, x78, x79, x80, x81, x82, x83], []⟩ W := by
  conv => arg 2; whnf
  have HN : Hid (∀ (z : Bool) (y61 y62 y63 y64 y65 y66 y67 y68 y69 y70 y71 y72 y73 y74 y75 y76 y77 y78 y79 y80 y81 y82 y83 : Value), (z = true ↔ ((c.S = 0 ∧ c.C = 0) ∨ (c.S = 1 ∧ 1 ≤ c.C ∧ c.C ≤ 1048576))) → Q .normal ⟨#[x0, .pointer (some ⟨g, 0, none⟩), .bool z, x3, x4, x5, x6, x7, x8, x9, x10, x11, x12, x13, x14, x15, x16, x17, x18, x19, x20, x21, x22, x23, x24, x25, x26, x27, x28, x29, x30, x31, x32, x33, x34, x35, x36, x37, x38, x39, x40, x41, x42, x43, x44, x45, x46, x47, x48, x49, x50, x51, x52, x53, x54, x55, x56, x57, x58, x59, x60, y61, y62, y63, y64, y65, y66, y67, y68, y69, y70, y71, y72, y73, y74, y75, y76, y77, y78, y79, y80, y81, y82, y83], []⟩ W) := hN
  clear hN
  obtain ⟨-, -, -, -, -, -, x6, x7⟩ := hv.cell
  by_cases h0 : c.S = 0
  · have d0 : (c.S == 0) = true := by simp [h0]
    have d1 : (c.S == 1) = false := by simp [h0]
    by_cases h1 : c.C = 0
    · have d2 : (c.C == 0) = true := by simp [h1]
      have HX : Hid ((c.S = 0 ∧ c.C = 0) ∨ (c.S = 1 ∧ 1 ≤ c.C ∧ c.C ≤ 1048576)) := .inl ⟨h0, h1⟩
      clear hv h0 h1
      go_wp2_with fail
      exact HN.out true _ _ _ _ _ _ _ _ _ _ _ _ _ _ _ _ _ _ _ _ _ _ _ ⟨fun _ => HX.out, fun _ => rfl⟩
    · have d2 : (c.C == 0) = false := by simp [h1]
      have HX : Hid (¬ ((c.S = 0 ∧ c.C = 0) ∨ (c.S = 1 ∧ 1 ≤ c.C ∧ c.C ≤ 1048576))) := fun e => by omega
      clear hv h0 h1
      go_wp2_with fail
      exact HN.out false _ _ _ _ _ _ _ _ _ _ _ _ _ _ _ _ _ _ _ _ _ _ _ ⟨fun e => (by cases e), fun e => absurd e HX.out⟩
  · have d0 : (c.S == 0) = false := by simp [h0]
    by_cases h1 : c.S = 1
    · have d1 : (c.S == 1) = true := by simp [h1]
      by_cases h2 : 1 ≤ c.C
      · have d2 : decide (1 ≤ c.C) = true := decide_eq_true h2
        by_cases h3 : c.C ≤ 1048576
        · have d3 : decide (c.C ≤ 1048576) = true := decide_eq_true h3
          have HX : Hid ((c.S = 0 ∧ c.C = 0) ∨ (c.S = 1 ∧ 1 ≤ c.C ∧ c.C ≤ 1048576)) := .inr ⟨h1, h2, h3⟩
          clear hv h0 h1 h2 h3
          go_wp2_with fail
          exact HN.out true _ _ _ _ _ _ _ _ _ _ _ _ _ _ _ _ _ _ _ _ _ _ _ ⟨fun _ => HX.out, fun _ => rfl⟩
        · have d3 : decide (c.C ≤ 1048576) = false := decide_eq_false h3
          have HX : Hid (¬ ((c.S = 0 ∧ c.C = 0) ∨ (c.S = 1 ∧ 1 ≤ c.C ∧ c.C ≤ 1048576))) := fun e => by omega
          clear hv h0 h1 h2 h3
          go_wp2_with fail
          exact HN.out false _ _ _ _ _ _ _ _ _ _ _ _ _ _ _ _ _ _ _ _ _ _ _ ⟨fun e => (by cases e), fun e => absurd e HX.out⟩
      · have d2 : decide (1 ≤ c.C) = false := decide_eq_false h2
        have HX : Hid (¬ ((c.S = 0 ∧ c.C = 0) ∨ (c.S = 1 ∧ 1 ≤ c.C ∧ c.C ≤ 1048576))) := fun e => by omega
        clear hv h0 h1 h2
        go_wp2_with fail
        exact HN.out false _ _ _ _ _ _ _ _ _ _ _ _ _ _ _ _ _ _ _ _ _ _ _ ⟨fun e => (by cases e), fun e => absurd e HX.out⟩
    · have d1 : (c.S == 1) = false := by simp [h1]
      have HX : Hid (¬ ((c.S = 0 ∧ c.C = 0) ∨ (c.S = 1 ∧ 1 ≤ c.C ∧ c.C ≤ 1048576))) := fun e => by omega
      clear hv h0 h1
      go_wp2_with fail
      exact HN.out false _ _ _ _ _ _ _ _ _ _ _ _ _ _ _ _ _ _ _ _ _ _ _ ⟨fun e => (by cases e), fun e => absurd e HX.out⟩

set_option maxRecDepth 100000 in
theorem rt16_ret {x0 x1 x3 x4 x5 x6 x7 x8 x9 x10 x11 x12 x13 x14 x15 x16 x17 x18 x19 x20 x21 x22 x23 x24 x25 x26 x27 x28 x29 x30 x31 x32 x33 x34 x35 x36 x37 x38 x39 x40 x41 x42 x43 x44 x45 x46 x47 x48 x49 x50 x51 x52 x53 x54 x55 x56 x57 x58 x59 x60 x61 x62 x63 x64 x65 x66 x67 x68 x69 x70 x71 x72 x73 x74 x75 x76 x77 x78 x79 x80 x81 x82 x83 : Value} {z : Bool} {post : Ending → World → Prop} {W : World} (h : post (.returned (.bool z)) W) : bodyPost Try.prog Try.f10 post .ret ⟨#[x0, x1, .bool z, x3, x4, x5, x6, x7, x8, x9, x10, x11, x12, x13, x14, x15, x16, x17, x18, x19, x20, x21, x22, x23, x24, x25, x26, x27, x28, x29, x30, x31, x32, x33, x34, x35, x36, x37, x38, x39, x40, x41, x42, x43, x44, x45, x46, x47, x48, x49, x50, x51, x52, x53, x54, x55, x56, x57, x58, x59, x60, x61, x62, x63, x64, x65, x66, x67, x68, x69, x70, x71, x72, x73, x74, x75, x76, x77, x78, x79, x80, x81, x82, x83], []⟩ W :=
  bodyPost_ret (v := .bool z) (by simp [results, Try.results10, go_sem]) rfl h

set_option maxRecDepth 100000 in
set_option maxHeartbeats 12800000 in
theorem r16right_any (c : Cfg) (w : World) : Calls Try.prog 10 #[.agg #[.int .i64 c.T, .int .i64 c.D, .int .i64 c.L, .int .i64 c.G, .int .i64 c.N, .int .i64 c.E, .int .i64 c.S, .int .i64 c.C]] w fun e w' => RgtT16 c w e w' := by
  go_enter Try.func10, Try.ntmps10
  refine pcSeq (fun Q0 n0 r0 _ => rt16_p0 ?_)
  have hV := balloc w (.cells #[.int .i64 c.T, .int .i64 c.D, .int .i64 c.L, .int .i64 c.G, .int .i64 c.N, .int .i64 c.E, .int .i64 c.S, .int .i64 c.C] 23)
  have hv := CVar.new w c
  refine n0 _ _ (pcSeq (fun Q1 n1 r1 _ => rt16_p1 hv ?_ ?_))
  rotate_left
  · intros
    rename_i hno
    exact r1 _ _ (rt16_ret ⟨false, rfl, ⟨fun e => (by cases e), fun e => absurd e hno⟩, hV⟩)
  intros
  rename_i a1 a2 a3 a4 a5 a6 a7 a8
  refine n1 _ _ (pcSeq (fun Q2 n2 r2 _ => rt16_p3 hv ?_ ?_))
  rotate_left
  · intros
    rename_i hno
    exact r2 _ _ (rt16_ret ⟨false, rfl, ⟨fun e => (by cases e), fun e => absurd e hno⟩, hV⟩)
  intros
  rename_i b1 b2 b3 b4
  refine n2 _ _ (pcSeq (fun Q3 n3 r3 _ => rt16_p5 hv ?_))
  intro z
  intros
  rename_i hz
  refine n3 _ _ (wp_ret ?_)
  exact rt16_ret ⟨z, rfl, hz.trans ⟨fun e => ⟨⟨a1, a2⟩, ⟨a3, a4⟩, ⟨a5, a6⟩, ⟨a7, a8⟩, ⟨b1, b2⟩, ⟨b3, b4⟩, e⟩, fun e => e.s⟩, hV⟩
end Go.Proofs.Ytpeefhkadeoioaa

/-
  The document's sets: Of, its statements. Written by mk/r14of.py.
-/
import Derived.Test.YtfgccldkbolkoaaRef14B
import Derived.Test.YtfgccldkbolkoaaPieces
import Derived.Test.YtfgccldkbolkoaaNatB
namespace Go.Proofs.Ytfgccldkbolkoaa
open Go.RowKit

/-- Of, under way: its result's cells, the set's variable, the set's words. -/
structure OfAt (w W : World) (R s g : Nat) (n q : Nat) (ws : List Int) : Prop where
  below : Below w.heap.size w W
  r : W.heap[R]? = some (.cells #[.int .i64 0, .slice none 0 0] 25 (0, 0))
  v : W.heap[s]? = some (.cells #[.int .i64 (n : Int), .slice (some ⟨g, 0, none⟩) q q] 25 (0, 0))
  b : Blk W g ws
  len : ws.length = q
  new : w.heap.size ≤ R ∧ w.heap.size ≤ s ∧ w.heap.size ≤ g
  ne : g ≠ R ∧ g ≠ s ∧ R ≠ s
theorem Blk.lt14 {w : World} {g : Nat} {L : List Int} (h : Blk w g L) : g < w.heap.size := by
  obtain ⟨cur, h, _⟩ := h
  exact (Array.getElem?_eq_some_iff.1 h).1
theorem OfAt.grow {w W W' : World} {R s g n q : Nat} {ws : List Int} (h : OfAt w W R s g n q ws) (hb : Below W.heap.size W W') : OfAt w W' R s g n q ws := by
  have hr := (Array.getElem?_eq_some_iff.1 h.r).1
  have hv := (Array.getElem?_eq_some_iff.1 h.v).1
  refine ⟨h.below.trans (hb.mono h.below.size), (hb.block R hr).trans h.r, (hb.block s hv).trans h.v, ?_, h.len, h.new, h.ne⟩
  have hg := h.b.lt14
  obtain ⟨cur, k1, k2⟩ := h.b
  exact ⟨cur, (hb.block g hg).trans k1, k2⟩
theorem OfAt.set {w W : World} {R s g n q : Nat} {ws : List Int} (h : OfAt w W R s g n q ws) (j : Nat) (x : Int) : OfAt w (W.setCell ⟨g, j, none⟩ (.int .u64 x)) R s g n q (ws.set j x) := by
  have gr := grown_set W g j (.int .u64 x)
  have hr := (Array.getElem?_eq_some_iff.1 h.r).1
  have hv := (Array.getElem?_eq_some_iff.1 h.v).1
  exact ⟨h.below.setCell (p := ⟨g, j, none⟩) h.new.2.2 _, (gr.block R hr (fun e => h.ne.1 (Option.some.inj e).symm)).trans h.r, (gr.block s hv (fun e => h.ne.2.1 (Option.some.inj e).symm)).trans h.v, h.b.set j x, by rw [List.length_set]; exact h.len, h.new, h.ne⟩
theorem OfAt.cells {w W : World} {R s g n q : Nat} {ws : List Int} (h : OfAt w W R s g n q ws) : (W.cell? ⟨R, 0, none⟩ = some (.int .i64 0) ∧ W.cell? ⟨R, 1, none⟩ = some (.slice none 0 0) ∧ W.frozen? ⟨R, 0, none⟩ = false ∧ W.frozen? ⟨R, 1, none⟩ = false) ∧ W.cell? ⟨s, 0, none⟩ = some (.int .i64 (n : Int)) ∧ W.cell? ⟨s, 1, none⟩ = some (.slice (some ⟨g, 0, none⟩) q q) := ⟨⟨by rw [cell_of_row _ _ _ _ _ _ h.r]; rfl, by rw [cell_of_row _ _ _ _ _ _ h.r]; rfl, frozen_of_row _ _ _ _ _ h.r, frozen_of_row _ _ _ _ _ h.r⟩, by rw [cell_of_row _ _ _ _ _ _ h.v]; rfl, by rw [cell_of_row _ _ _ _ _ _ h.v]; rfl⟩
theorem put2_below {w W : World} {R : Nat} (hb : Below w.heap.size w W) (hR : w.heap.size ≤ R) (x y : Value) : Below w.heap.size w ((W.setCell ⟨R, 0, none⟩ x).setCell ⟨R, 1, none⟩ y) := (hb.setCell (p := ⟨R, 0, none⟩) hR _).setCell (p := ⟨R, 1, none⟩) hR _
/-- What a call that makes a set makes. -/
def OfT14 (n : Int) (xs : List Int) (w : World) (e : Ending) (w' : World) : Prop := ∃ N a l c ws err, e = .returned (.tuple #[.agg #[.int .i64 N, .slice a l c], .int .i64 err]) ∧ Nums w' a l c ws ∧ ResOf n xs N ws err ∧ Below w.heap.size w w'

set_option maxRecDepth 100000 in
set_option maxHeartbeats 12800000 in
theorem of_p0 {x0 x1 x2 x3 x4 x5 x6 x7 x8 x9 x10 x11 x12 x13 x14 x15 x16 x17 x18 x19 x20 x21 x22 x23 x24 x25 x26 x27 x28 x29 x30 x31 x32 x33 x34 x35 x36 x37 x38 x39 x40 x41 x42 x43 x44 x45 x46 x47 x48 x49 x50 x51 x52 x53 x54 x55 x56 x57 x58 x59 x60 x61 x62 x63 x64 x65 x66 x67 x68 x69 x70 x71 x72 x73 x74 x75 x76 x77 x78 x79 x80 x81 : Value} {Q : Exit → Act → World → Prop} {W : World} 
    (hN : Q .normal ⟨#[x0, x1, x2, x3, .pointer (some ⟨W.heap.size, 0, none⟩), .int .i64 0, x6, x7, x8, x9, x10, x11, x12, x13, x14, x15, x16, x17, x18, x19, x20, x21, x22, x23, x24, x25, x26, x27, x28, x29, x30, x31, x32, x33, x34, x35, x36, x37, x38, x39, x40, x41, x42, x43, x44, x45, x46, x47, x48, x49, x50, x51, x52, x53, x54, x55, x56, x57, x58, x59, x60, x61, x62, x63, x64, x65, x66, x67, x68, x69, x70, x71, x72, x73, x74, x75, x76, x77, x78, x79, x80, x81], []⟩ (W.alloc (.cells #[.int .i64 0, .slice none 0 0] 25))) :
    Code.wp Try.prog ((Try.f12.body.bind (pcAt 0)).getD .skip) Q ⟨#[x0, x1, x2, x3, x4, x5, x6, x7, x8, x9, x10, x11, x12, x13, x14, x15, x16, x17, x18, x19, x20, x21, x22, x23, x24, x25, x26, x27, x28, x29, x30, x31, x32, x33, x34, x35, x36, x37, x38, x39, x40, x41, x42, x43, x44, x45, x46, x47, x48, x49, x50, x51, x52, x53, x54, x55, x56, x57, x58, x59, x60, x61, x62, x63, x64, x65, x66, x67, x68, x69, x70, x71, x72, x73, x74, x75, x76, x77, x78, x79, x80, x81], []⟩ W := by
  conv => arg 2; whnf
  have HN : Hid (Q .normal ⟨#[x0, x1, x2, x3, .pointer (some ⟨W.heap.size, 0, none⟩), .int .i64 0, x6, x7, x8, x9, x10, x11, x12, x13, x14, x15, x16, x17, x18, x19, x20, x21, x22, x23, x24, x25, x26, x27, x28, x29, x30, x31, x32, x33, x34, x35, x36, x37, x38, x39, x40, x41, x42, x43, x44, x45, x46, x47, x48, x49, x50, x51, x52, x53, x54, x55, x56, x57, x58, x59, x60, x61, x62, x63, x64, x65, x66, x67, x68, x69, x70, x71, x72, x73, x74, x75, x76, x77, x78, x79, x80, x81], []⟩ (W.alloc (.cells #[.int .i64 0, .slice none 0 0] 25))) := hN
  clear hN
  go_wp2_with fail
  exact HN.out   

set_option maxRecDepth 100000 in
set_option maxHeartbeats 12800000 in
theorem of_p1 {x1 x2 x3 x5 x6 x7 x8 x9 x10 x11 x12 x13 x14 x15 x16 x17 x18 x19 x20 x21 x22 x23 x24 x25 x26 x27 x28 x29 x30 x31 x32 x33 x34 x35 x36 x37 x38 x39 x40 x41 x42 x43 x44 x45 x46 x47 x48 x49 x50 x51 x52 x53 x54 x55 x56 x57 x58 x59 x60 x61 x62 x63 x64 x65 x66 x67 x68 x69 x70 x71 x72 x73 x74 x75 x76 x77 x78 x79 x80 x81 : Value} {Q : Exit → Act → World → Prop} {W : World} {R : Nat} {n : Int} (r0 : W.cell? ⟨R, 0, none⟩ = some (.int .i64 0)) (r1 : W.cell? ⟨R, 1, none⟩ = some (.slice none 0 0)) (f0 : W.frozen? ⟨R, 0, none⟩ = false) (f1 : W.frozen? ⟨R, 1, none⟩ = false)
    (hN : ∀ (y5 y11 y12 y13 y14 y15 y16 y17 : Value), 0 ≤ n → n ≤ 65536 → Q .normal ⟨#[.int .i64 n, x1, x2, x3, .pointer (some ⟨R, 0, none⟩), y5, x6, x7, x8, x9, x10, y11, y12, y13, y14, y15, y16, y17, x18, x19, x20, x21, x22, x23, x24, x25, x26, x27, x28, x29, x30, x31, x32, x33, x34, x35, x36, x37, x38, x39, x40, x41, x42, x43, x44, x45, x46, x47, x48, x49, x50, x51, x52, x53, x54, x55, x56, x57, x58, x59, x60, x61, x62, x63, x64, x65, x66, x67, x68, x69, x70, x71, x72, x73, x74, x75, x76, x77, x78, x79, x80, x81], []⟩ W)
    (hR : ∀ (y11 y12 y13 y14 y15 y16 y17 : Value), (n < 0 ∨ 65536 < n) → Q .ret ⟨#[.int .i64 n, x1, x2, x3, .pointer (some ⟨R, 0, none⟩), .int .i64 1, x6, x7, x8, x9, x10, y11, y12, y13, y14, y15, y16, y17, x18, x19, x20, x21, x22, x23, x24, x25, x26, x27, x28, x29, x30, x31, x32, x33, x34, x35, x36, x37, x38, x39, x40, x41, x42, x43, x44, x45, x46, x47, x48, x49, x50, x51, x52, x53, x54, x55, x56, x57, x58, x59, x60, x61, x62, x63, x64, x65, x66, x67, x68, x69, x70, x71, x72, x73, x74, x75, x76, x77, x78, x79, x80, x81], []⟩ ((W.setCell ⟨R, 0, none⟩ (.int .i64 0)).setCell ⟨R, 1, none⟩ (.slice none 0 0))) :
    Code.wp Try.prog ((Try.f12.body.bind (pcAt 1)).getD .skip) Q ⟨#[.int .i64 n, x1, x2, x3, .pointer (some ⟨R, 0, none⟩), x5, x6, x7, x8, x9, x10, x11, x12, x13, x14, x15, x16, x17, x18, x19, x20, x21, x22, x23, x24, x25, x26, x27, x28, x29, x30, x31, x32, x33, x34, x35, x36, x37, x38, x39, x40, x41, x42, x43, x44, x45, x46, x47, x48, x49, x50, x51, x52, x53, x54, x55, x56, x57, x58, x59, x60, x61, x62, x63, x64, x65, x66, x67, x68, x69, x70, x71, x72, x73, x74, x75, x76, x77, x78, x79, x80, x81], []⟩ W := by
  conv => arg 2; whnf
  have HN : Hid (∀ (y5 y11 y12 y13 y14 y15 y16 y17 : Value), 0 ≤ n → n ≤ 65536 → Q .normal ⟨#[.int .i64 n, x1, x2, x3, .pointer (some ⟨R, 0, none⟩), y5, x6, x7, x8, x9, x10, y11, y12, y13, y14, y15, y16, y17, x18, x19, x20, x21, x22, x23, x24, x25, x26, x27, x28, x29, x30, x31, x32, x33, x34, x35, x36, x37, x38, x39, x40, x41, x42, x43, x44, x45, x46, x47, x48, x49, x50, x51, x52, x53, x54, x55, x56, x57, x58, x59, x60, x61, x62, x63, x64, x65, x66, x67, x68, x69, x70, x71, x72, x73, x74, x75, x76, x77, x78, x79, x80, x81], []⟩ W) := hN
  have HR : Hid (∀ (y11 y12 y13 y14 y15 y16 y17 : Value), (n < 0 ∨ 65536 < n) → Q .ret ⟨#[.int .i64 n, x1, x2, x3, .pointer (some ⟨R, 0, none⟩), .int .i64 1, x6, x7, x8, x9, x10, y11, y12, y13, y14, y15, y16, y17, x18, x19, x20, x21, x22, x23, x24, x25, x26, x27, x28, x29, x30, x31, x32, x33, x34, x35, x36, x37, x38, x39, x40, x41, x42, x43, x44, x45, x46, x47, x48, x49, x50, x51, x52, x53, x54, x55, x56, x57, x58, x59, x60, x61, x62, x63, x64, x65, x66, x67, x68, x69, x70, x71, x72, x73, x74, x75, x76, x77, x78, x79, x80, x81], []⟩ ((W.setCell ⟨R, 0, none⟩ (.int .i64 0)).setCell ⟨R, 1, none⟩ (.slice none 0 0))) := hR
  clear hN hR
  by_cases n1 : n < 0
  · have d1 : decide (n < 0) = true := decide_eq_true n1
    have HX : Hid (n < 0 ∨ 65536 < n) := .inl n1
    clear HN n1
    go_wp2_with fail
    exact HR.out  _ _ _ _ _ _ _ HX.out
  have d1 : decide (n < 0) = false := decide_eq_false n1
  by_cases n2 : 65536 < n
  · have d2 : decide (65536 < n) = true := decide_eq_true n2
    have HX : Hid (n < 0 ∨ 65536 < n) := .inr n2
    clear HN n1 n2
    go_wp2_with fail
    exact HR.out  _ _ _ _ _ _ _ HX.out
  have d2 : decide (65536 < n) = false := decide_eq_false n2
  have HX : Hid (0 ≤ n ∧ n ≤ 65536) := ⟨by omega, by omega⟩
  clear HR n1 n2
  go_wp2_with fail
  exact HN.out  _ _ _ _ _ _ _ _ HX.out.1 HX.out.2

set_option maxRecDepth 100000 in
set_option maxHeartbeats 12800000 in
theorem of_p3 {x1 x2 x3 x4 x5 x6 x7 x8 x9 x10 x11 x12 x13 x14 x15 x16 x17 x18 x19 x20 x21 x22 x23 x24 x25 x26 x27 x28 x29 x30 x31 x32 x33 x34 x35 x36 x37 x38 x39 x40 x41 x42 x43 x44 x45 x46 x47 x48 x49 x50 x51 x52 x53 x54 x55 x56 x57 x58 x59 x60 x61 x62 x63 x64 x65 x66 x67 x68 x69 x70 x71 x72 x73 x74 x75 x76 x77 x78 x79 x80 x81 : Value} {Q : Exit → Act → World → Prop} {W : World} {n : Nat} (hn : n ≤ 65536)
    (hN : ∀ (w1 : World) (y18 y19 y20 y21 y22 y23 : Value), Blk w1 W.heap.size (noughts ((n + 63) / 64)) → Below W.heap.size W w1 → w1.heap.size = W.heap.size + 1 → Q .normal ⟨#[.int .i64 (n : Int), x1, x2, x3, x4, x5, .pointer (some ⟨w1.heap.size, 0, none⟩), x7, x8, x9, x10, x11, x12, x13, x14, x15, x16, x17, y18, y19, y20, y21, y22, y23, x24, x25, x26, x27, x28, x29, x30, x31, x32, x33, x34, x35, x36, x37, x38, x39, x40, x41, x42, x43, x44, x45, x46, x47, x48, x49, x50, x51, x52, x53, x54, x55, x56, x57, x58, x59, x60, x61, x62, x63, x64, x65, x66, x67, x68, x69, x70, x71, x72, x73, x74, x75, x76, x77, x78, x79, x80, x81], []⟩ (w1.alloc (.cells #[.int .i64 (n : Int), .slice (some ⟨W.heap.size, 0, none⟩) ((n + 63) / 64) ((n + 63) / 64)] 25))) :
    Code.wp Try.prog ((Try.f12.body.bind (pcAt 3)).getD .skip) Q ⟨#[.int .i64 (n : Int), x1, x2, x3, x4, x5, x6, x7, x8, x9, x10, x11, x12, x13, x14, x15, x16, x17, x18, x19, x20, x21, x22, x23, x24, x25, x26, x27, x28, x29, x30, x31, x32, x33, x34, x35, x36, x37, x38, x39, x40, x41, x42, x43, x44, x45, x46, x47, x48, x49, x50, x51, x52, x53, x54, x55, x56, x57, x58, x59, x60, x61, x62, x63, x64, x65, x66, x67, x68, x69, x70, x71, x72, x73, x74, x75, x76, x77, x78, x79, x80, x81], []⟩ W := by
  conv => arg 2; whnf
  have HN : Hid (∀ (w1 : World) (y18 y19 y20 y21 y22 y23 : Value), Blk w1 W.heap.size (noughts ((n + 63) / 64)) → Below W.heap.size W w1 → w1.heap.size = W.heap.size + 1 → Q .normal ⟨#[.int .i64 (n : Int), x1, x2, x3, x4, x5, .pointer (some ⟨w1.heap.size, 0, none⟩), x7, x8, x9, x10, x11, x12, x13, x14, x15, x16, x17, y18, y19, y20, y21, y22, y23, x24, x25, x26, x27, x28, x29, x30, x31, x32, x33, x34, x35, x36, x37, x38, x39, x40, x41, x42, x43, x44, x45, x46, x47, x48, x49, x50, x51, x52, x53, x54, x55, x56, x57, x58, x59, x60, x61, x62, x63, x64, x65, x66, x67, x68, x69, x70, x71, x72, x73, x74, x75, x76, x77, x78, x79, x80, x81], []⟩ (w1.alloc (.cells #[.int .i64 (n : Int), .slice (some ⟨W.heap.size, 0, none⟩) ((n + 63) / 64) ((n + 63) / 64)] 25))) := hN
  clear hN
  obtain ⟨q, hq⟩ : ∃ q, q = (n + 63) / 64 := ⟨_, rfl⟩
  rw [← hq] at HN
  have e1 : ((n : Int) + 63).tdiv 64 = (q : Int) := by rw [Int.tdiv_eq_ediv_of_nonneg (by omega)]; omega
  have hq2 : q ≤ 1024 := by omega
  have hwq : RowKit.wrap64 (q : Int) = (q : Int) := by unfold RowKit.wrap64; omega
  clear hq
  go_wp2_with (at_make; refine wpList_mk _ rfl _ _ 23 rfl Try.underlying23 .i64 .i64 _ _ q rfl rfl (by first | rfl | omega | simp [hwq]) (by first | rfl | omega | simp [hwq]) (by omega) ?_)
  intro w1 k1 k2 k3
  have HT : Hid (Blk w1 W.heap.size (noughts q) ∧ Below W.heap.size W w1 ∧ w1.heap.size = W.heap.size + 1) := ⟨k1, k2, k3⟩
  clear k1 k2 k3
  go_wp2_with fail
  exact HN.out w1 _ _ _ _ _ _ HT.out.1 HT.out.2.1 HT.out.2.2

set_option maxRecDepth 100000 in
set_option maxHeartbeats 12800000 in
theorem of_t5 {x0 x2 x3 x4 x5 x6 x8 x9 x10 x11 x12 x13 x14 x15 x16 x17 x18 x19 x20 x21 x22 x23 x24 x25 x26 x27 x28 x29 x30 x31 x32 x33 x34 x35 x36 x37 x38 x39 x40 x41 x42 x43 x44 x45 x46 x47 x48 x49 x50 x51 x52 x53 x54 x55 x56 x57 x58 x59 x60 x61 x62 x63 x64 x65 x66 x67 x68 x69 x70 x71 x72 x73 x74 x75 x76 x77 x78 x79 x80 x81 : Value} {Q : Exit → Act → World → Prop} {W : World} {a : Option Addr} {len cap i : Nat} (hi : i ≤ len)
    (hN : ∀ (y24 y25 y26 y27 : Value), i < len → Q .normal ⟨#[x0, .slice a len cap, x2, x3, x4, x5, x6, .int .i64 (i : Int), x8, x9, x10, x11, x12, x13, x14, x15, x16, x17, x18, x19, x20, x21, x22, x23, y24, y25, y26, y27, x28, x29, x30, x31, x32, x33, x34, x35, x36, x37, x38, x39, x40, x41, x42, x43, x44, x45, x46, x47, x48, x49, x50, x51, x52, x53, x54, x55, x56, x57, x58, x59, x60, x61, x62, x63, x64, x65, x66, x67, x68, x69, x70, x71, x72, x73, x74, x75, x76, x77, x78, x79, x80, x81], []⟩ W)
    (hE : ∀ (y24 y25 y26 y27 : Value), i = len → Q (.exit 0) ⟨#[x0, .slice a len cap, x2, x3, x4, x5, x6, .int .i64 (i : Int), x8, x9, x10, x11, x12, x13, x14, x15, x16, x17, x18, x19, x20, x21, x22, x23, y24, y25, y26, y27, x28, x29, x30, x31, x32, x33, x34, x35, x36, x37, x38, x39, x40, x41, x42, x43, x44, x45, x46, x47, x48, x49, x50, x51, x52, x53, x54, x55, x56, x57, x58, x59, x60, x61, x62, x63, x64, x65, x66, x67, x68, x69, x70, x71, x72, x73, x74, x75, x76, x77, x78, x79, x80, x81], []⟩ W) :
    Code.wp Try.prog (((Try.f12.body.bind (pcLoop 0)).bind (pcAt 5)).getD .skip) Q ⟨#[x0, .slice a len cap, x2, x3, x4, x5, x6, .int .i64 (i : Int), x8, x9, x10, x11, x12, x13, x14, x15, x16, x17, x18, x19, x20, x21, x22, x23, x24, x25, x26, x27, x28, x29, x30, x31, x32, x33, x34, x35, x36, x37, x38, x39, x40, x41, x42, x43, x44, x45, x46, x47, x48, x49, x50, x51, x52, x53, x54, x55, x56, x57, x58, x59, x60, x61, x62, x63, x64, x65, x66, x67, x68, x69, x70, x71, x72, x73, x74, x75, x76, x77, x78, x79, x80, x81], []⟩ W := by
  conv => arg 2; whnf
  have HN : Hid (∀ (y24 y25 y26 y27 : Value), i < len → Q .normal ⟨#[x0, .slice a len cap, x2, x3, x4, x5, x6, .int .i64 (i : Int), x8, x9, x10, x11, x12, x13, x14, x15, x16, x17, x18, x19, x20, x21, x22, x23, y24, y25, y26, y27, x28, x29, x30, x31, x32, x33, x34, x35, x36, x37, x38, x39, x40, x41, x42, x43, x44, x45, x46, x47, x48, x49, x50, x51, x52, x53, x54, x55, x56, x57, x58, x59, x60, x61, x62, x63, x64, x65, x66, x67, x68, x69, x70, x71, x72, x73, x74, x75, x76, x77, x78, x79, x80, x81], []⟩ W) := hN
  have HE : Hid (∀ (y24 y25 y26 y27 : Value), i = len → Q (.exit 0) ⟨#[x0, .slice a len cap, x2, x3, x4, x5, x6, .int .i64 (i : Int), x8, x9, x10, x11, x12, x13, x14, x15, x16, x17, x18, x19, x20, x21, x22, x23, y24, y25, y26, y27, x28, x29, x30, x31, x32, x33, x34, x35, x36, x37, x38, x39, x40, x41, x42, x43, x44, x45, x46, x47, x48, x49, x50, x51, x52, x53, x54, x55, x56, x57, x58, x59, x60, x61, x62, x63, x64, x65, x66, x67, x68, x69, x70, x71, x72, x73, x74, x75, x76, x77, x78, x79, x80, x81], []⟩ W) := hE
  clear hN hE
  by_cases hlt : i < len
  · have hlti : (i : Int) < (len : Int) := by omega
    clear HE
    go_wp2_with fail
    exact HN.out  _ _ _ _ hlt
  · have hlti : decide (i < len) = false := decide_eq_false hlt
    have HE2 : Hid (i = len) := by show _ = _; omega
    clear HN hi
    go_wp2_with fail
    exact HE.out  _ _ _ _ HE2.out

set_option maxRecDepth 100000 in
set_option maxHeartbeats 12800000 in
theorem of_p7 {x2 x3 x5 x6 x8 x9 x10 x11 x12 x13 x14 x15 x16 x17 x18 x19 x20 x21 x22 x23 x24 x25 x26 x27 x28 x29 x30 x31 x32 x33 x34 x35 x36 x37 x38 x39 x40 x41 x42 x43 x44 x45 x46 x47 x48 x49 x50 x51 x52 x53 x54 x55 x56 x57 x58 x59 x60 x61 x62 x63 x64 x65 x66 x67 x68 x69 x70 x71 x72 x73 x74 x75 x76 x77 x78 x79 x80 x81 : Value} {Q : Exit → Act → World → Prop} {W : World} {R b off len cap i n : Nat} {x : Int} (hlt : i < len) (cx : W.cell? ⟨b, off + i, none⟩ = some (.int .i64 x)) (r0 : W.cell? ⟨R, 0, none⟩ = some (.int .i64 0)) (r1 : W.cell? ⟨R, 1, none⟩ = some (.slice none 0 0)) (f0 : W.frozen? ⟨R, 0, none⟩ = false) (f1 : W.frozen? ⟨R, 1, none⟩ = false)
    (hN : ∀ (y5 y30 y31 y32 y33 y34 y35 y36 y37 y38 y39 y40 y41 y42 y43 : Value), 0 ≤ x → x < n → Q .normal ⟨#[.int .i64 (n : Int), .slice (some ⟨b, off, none⟩) len cap, x2, x3, .pointer (some ⟨R, 0, none⟩), y5, x6, .int .i64 (i : Int), x8, x9, x10, x11, x12, x13, x14, x15, x16, x17, x18, x19, x20, x21, x22, x23, x24, x25, x26, x27, x28, x29, y30, y31, y32, y33, y34, y35, y36, y37, y38, y39, y40, y41, y42, y43, x44, x45, x46, x47, x48, x49, x50, x51, x52, x53, x54, x55, x56, x57, x58, x59, x60, x61, x62, x63, x64, x65, x66, x67, x68, x69, x70, x71, x72, x73, x74, x75, x76, x77, x78, x79, x80, x81], []⟩ W)
    (hR : ∀ (y30 y31 y32 y33 y34 y35 y36 y37 y38 y39 y40 y41 y42 y43 : Value), (x < 0 ∨ (n : Int) ≤ x) → Q .ret ⟨#[.int .i64 (n : Int), .slice (some ⟨b, off, none⟩) len cap, x2, x3, .pointer (some ⟨R, 0, none⟩), .int .i64 1, x6, .int .i64 (i : Int), x8, x9, x10, x11, x12, x13, x14, x15, x16, x17, x18, x19, x20, x21, x22, x23, x24, x25, x26, x27, x28, x29, y30, y31, y32, y33, y34, y35, y36, y37, y38, y39, y40, y41, y42, y43, x44, x45, x46, x47, x48, x49, x50, x51, x52, x53, x54, x55, x56, x57, x58, x59, x60, x61, x62, x63, x64, x65, x66, x67, x68, x69, x70, x71, x72, x73, x74, x75, x76, x77, x78, x79, x80, x81], []⟩ ((W.setCell ⟨R, 0, none⟩ (.int .i64 0)).setCell ⟨R, 1, none⟩ (.slice none 0 0))) :
    Code.wp Try.prog (((Try.f12.body.bind (pcBlk 1)).bind (pcAt 7)).getD .skip) Q ⟨#[.int .i64 (n : Int), .slice (some ⟨b, off, none⟩) len cap, x2, x3, .pointer (some ⟨R, 0, none⟩), x5, x6, .int .i64 (i : Int), x8, x9, x10, x11, x12, x13, x14, x15, x16, x17, x18, x19, x20, x21, x22, x23, x24, x25, x26, x27, x28, x29, x30, x31, x32, x33, x34, x35, x36, x37, x38, x39, x40, x41, x42, x43, x44, x45, x46, x47, x48, x49, x50, x51, x52, x53, x54, x55, x56, x57, x58, x59, x60, x61, x62, x63, x64, x65, x66, x67, x68, x69, x70, x71, x72, x73, x74, x75, x76, x77, x78, x79, x80, x81], []⟩ W := by
  conv => arg 2; whnf
  have HN : Hid (∀ (y5 y30 y31 y32 y33 y34 y35 y36 y37 y38 y39 y40 y41 y42 y43 : Value), 0 ≤ x → x < n → Q .normal ⟨#[.int .i64 (n : Int), .slice (some ⟨b, off, none⟩) len cap, x2, x3, .pointer (some ⟨R, 0, none⟩), y5, x6, .int .i64 (i : Int), x8, x9, x10, x11, x12, x13, x14, x15, x16, x17, x18, x19, x20, x21, x22, x23, x24, x25, x26, x27, x28, x29, y30, y31, y32, y33, y34, y35, y36, y37, y38, y39, y40, y41, y42, y43, x44, x45, x46, x47, x48, x49, x50, x51, x52, x53, x54, x55, x56, x57, x58, x59, x60, x61, x62, x63, x64, x65, x66, x67, x68, x69, x70, x71, x72, x73, x74, x75, x76, x77, x78, x79, x80, x81], []⟩ W) := hN
  have HR : Hid (∀ (y30 y31 y32 y33 y34 y35 y36 y37 y38 y39 y40 y41 y42 y43 : Value), (x < 0 ∨ (n : Int) ≤ x) → Q .ret ⟨#[.int .i64 (n : Int), .slice (some ⟨b, off, none⟩) len cap, x2, x3, .pointer (some ⟨R, 0, none⟩), .int .i64 1, x6, .int .i64 (i : Int), x8, x9, x10, x11, x12, x13, x14, x15, x16, x17, x18, x19, x20, x21, x22, x23, x24, x25, x26, x27, x28, x29, y30, y31, y32, y33, y34, y35, y36, y37, y38, y39, y40, y41, y42, y43, x44, x45, x46, x47, x48, x49, x50, x51, x52, x53, x54, x55, x56, x57, x58, x59, x60, x61, x62, x63, x64, x65, x66, x67, x68, x69, x70, x71, x72, x73, x74, x75, x76, x77, x78, x79, x80, x81], []⟩ ((W.setCell ⟨R, 0, none⟩ (.int .i64 0)).setCell ⟨R, 1, none⟩ (.slice none 0 0))) := hR
  clear hN hR
  have hlti : (i : Int) < (len : Int) := by omega
  have hi0 : (0 : Int) ≤ (i : Int) := by omega
  by_cases n1 : x < 0
  · have d1 : decide (x < 0) = true := decide_eq_true n1
    have HX : Hid (x < 0 ∨ (n : Int) ≤ x) := .inl n1
    clear HN n1
    go_wp2_with fail
    exact HR.out  _ _ _ _ _ _ _ _ _ _ _ _ _ _ HX.out
  have d1 : decide (x < 0) = false := decide_eq_false n1
  by_cases n2 : (n : Int) ≤ x
  · have d2 : decide ((n : Int) ≤ x) = true := decide_eq_true n2
    have HX : Hid (x < 0 ∨ (n : Int) ≤ x) := .inr n2
    clear HN n1 n2
    go_wp2_with fail
    exact HR.out  _ _ _ _ _ _ _ _ _ _ _ _ _ _ HX.out
  have d2 : decide ((n : Int) ≤ x) = false := decide_eq_false n2
  have HX : Hid (0 ≤ x ∧ x < n) := ⟨by omega, by omega⟩
  clear HR n1 n2
  go_wp2_with fail
  exact HN.out  _ _ _ _ _ _ _ _ _ _ _ _ _ _ _ HX.out.1 HX.out.2

set_option maxRecDepth 100000 in
set_option maxHeartbeats 12800000 in
theorem of_p9 {x0 x2 x3 x4 x5 x8 x9 x10 x11 x12 x13 x14 x15 x16 x17 x18 x19 x20 x21 x22 x23 x24 x25 x26 x27 x28 x29 x30 x31 x32 x33 x34 x35 x36 x37 x38 x39 x40 x41 x42 x43 x44 x45 x46 x47 x48 x49 x50 x51 x52 x53 x54 x55 x56 x57 x58 x59 x60 x61 x62 x63 x64 x65 x66 x67 x68 x69 x70 x71 x72 x73 x74 x75 x76 x77 x78 x79 x80 x81 : Value} {Q : Exit → Act → World → Prop} {W : World} {s g b off len cap i n q x : Nat} {ws : List Int} (hlt : i < len) (cx : W.cell? ⟨b, off + i, none⟩ = some (.int .i64 (x : Int))) (s0 : W.cell? ⟨s, 0, none⟩ = some (.int .i64 (n : Int))) (s1 : W.cell? ⟨s, 1, none⟩ = some (.slice (some ⟨g, 0, none⟩) q q)) (hN : Nums W (some ⟨g, 0, none⟩) q q ws) (hx : x < 64 * q) (hx2 : x ≤ 65536)
    (hN : ∀ (wx : World) (y44 y45 y46 y47 y48 y49 : Value), Below W.heap.size W wx → Q .normal ⟨#[x0, .slice (some ⟨b, off, none⟩) len cap, x2, x3, x4, x5, .pointer (some ⟨s, 0, none⟩), .int .i64 (i : Int), .bool (wbit ws x), x9, x10, x11, x12, x13, x14, x15, x16, x17, x18, x19, x20, x21, x22, x23, x24, x25, x26, x27, x28, x29, x30, x31, x32, x33, x34, x35, x36, x37, x38, x39, x40, x41, x42, x43, y44, y45, y46, y47, y48, y49, x50, x51, x52, x53, x54, x55, x56, x57, x58, x59, x60, x61, x62, x63, x64, x65, x66, x67, x68, x69, x70, x71, x72, x73, x74, x75, x76, x77, x78, x79, x80, x81], []⟩ wx) :
    Code.wp Try.prog (((Try.f12.body.bind (pcBlk 1)).bind (pcAt 9)).getD .skip) Q ⟨#[x0, .slice (some ⟨b, off, none⟩) len cap, x2, x3, x4, x5, .pointer (some ⟨s, 0, none⟩), .int .i64 (i : Int), x8, x9, x10, x11, x12, x13, x14, x15, x16, x17, x18, x19, x20, x21, x22, x23, x24, x25, x26, x27, x28, x29, x30, x31, x32, x33, x34, x35, x36, x37, x38, x39, x40, x41, x42, x43, x44, x45, x46, x47, x48, x49, x50, x51, x52, x53, x54, x55, x56, x57, x58, x59, x60, x61, x62, x63, x64, x65, x66, x67, x68, x69, x70, x71, x72, x73, x74, x75, x76, x77, x78, x79, x80, x81], []⟩ W := by
  conv => arg 2; whnf
  have HN : Hid (∀ (wx : World) (y44 y45 y46 y47 y48 y49 : Value), Below W.heap.size W wx → Q .normal ⟨#[x0, .slice (some ⟨b, off, none⟩) len cap, x2, x3, x4, x5, .pointer (some ⟨s, 0, none⟩), .int .i64 (i : Int), .bool (wbit ws x), x9, x10, x11, x12, x13, x14, x15, x16, x17, x18, x19, x20, x21, x22, x23, x24, x25, x26, x27, x28, x29, x30, x31, x32, x33, x34, x35, x36, x37, x38, x39, x40, x41, x42, x43, y44, y45, y46, y47, y48, y49, x50, x51, x52, x53, x54, x55, x56, x57, x58, x59, x60, x61, x62, x63, x64, x65, x66, x67, x68, x69, x70, x71, x72, x73, x74, x75, x76, x77, x78, x79, x80, x81], []⟩ wx) := hN
  clear hN
  have hlti : (i : Int) < (len : Int) := by omega
  have hi0 : (0 : Int) ≤ (i : Int) := by omega
  have HC : Hid (∀ wx : World, wx.heap = W.heap → wx.os = W.os → wx.tape = W.tape → wx.output = W.output → Calls Try.prog 24 #[.agg #[.int .i64 (n : Int), .slice (some ⟨g, 0, none⟩) q q], .int .i64 (x : Int)] wx fun e w' => e = .returned (.bool (wbit ws x)) ∧ Hid (Below W.heap.size W w')) := fun wx y1 y2 y3 y4 => by
    have hb : Below W.heap.size W wx := ⟨y2, y3, y4, by rw [y1]; exact Nat.le_refl _, fun _ _ => by rw [y1]⟩
    exact (r14bit_any (n : Int) (some ⟨g, 0, none⟩) q q ws x wx (hN.below hb) hx (by omega)).mono fun e w' h => ⟨h.1, bthen hb h.2⟩
  clear hN hx hx2
  refine wp_pcOnly ?_
  go_wp2_with fail
  go_region_with (first
    | (go_at_call 24; with_reducible refine Calls.mono (HC.out _ rfl rfl rfl rfl) ?_; rintro e w3 ⟨rfl, hZ⟩))
  all_goals
    clear HC s0 s1 cx
    go_wp2_with fail
    exact HN.out _ _ _ _ _ _ _ hZ.out

set_option maxRecDepth 100000 in
set_option maxHeartbeats 12800000 in
theorem of_p10 {x0 x1 x2 x3 x4 x5 x6 x7 x9 x10 x11 x12 x13 x14 x15 x16 x17 x18 x19 x20 x21 x22 x23 x24 x25 x26 x27 x28 x29 x30 x31 x32 x33 x34 x35 x36 x37 x38 x39 x40 x41 x42 x43 x44 x45 x46 x47 x48 x49 x50 x51 x52 x53 x54 x55 x56 x57 x58 x59 x60 x61 x62 x63 x64 x65 x66 x67 x68 x69 x70 x71 x72 x73 x74 x75 x76 x77 x78 x79 x80 x81 : Value} {Q : Exit → Act → World → Prop} {W : World} {z : Bool} 
    (hN : ∀ (y50 : Value), z = false → Q .normal ⟨#[x0, x1, x2, x3, x4, x5, x6, x7, .bool z, x9, x10, x11, x12, x13, x14, x15, x16, x17, x18, x19, x20, x21, x22, x23, x24, x25, x26, x27, x28, x29, x30, x31, x32, x33, x34, x35, x36, x37, x38, x39, x40, x41, x42, x43, x44, x45, x46, x47, x48, x49, y50, x51, x52, x53, x54, x55, x56, x57, x58, x59, x60, x61, x62, x63, x64, x65, x66, x67, x68, x69, x70, x71, x72, x73, x74, x75, x76, x77, x78, x79, x80, x81], []⟩ W)
    (hE : ∀ (y50 : Value), z = true → Q (.exit 1) ⟨#[x0, x1, x2, x3, x4, x5, x6, x7, .bool z, x9, x10, x11, x12, x13, x14, x15, x16, x17, x18, x19, x20, x21, x22, x23, x24, x25, x26, x27, x28, x29, x30, x31, x32, x33, x34, x35, x36, x37, x38, x39, x40, x41, x42, x43, x44, x45, x46, x47, x48, x49, y50, x51, x52, x53, x54, x55, x56, x57, x58, x59, x60, x61, x62, x63, x64, x65, x66, x67, x68, x69, x70, x71, x72, x73, x74, x75, x76, x77, x78, x79, x80, x81], []⟩ W) :
    Code.wp Try.prog (((Try.f12.body.bind (pcBlk 1)).bind (pcAt 10)).getD .skip) Q ⟨#[x0, x1, x2, x3, x4, x5, x6, x7, .bool z, x9, x10, x11, x12, x13, x14, x15, x16, x17, x18, x19, x20, x21, x22, x23, x24, x25, x26, x27, x28, x29, x30, x31, x32, x33, x34, x35, x36, x37, x38, x39, x40, x41, x42, x43, x44, x45, x46, x47, x48, x49, x50, x51, x52, x53, x54, x55, x56, x57, x58, x59, x60, x61, x62, x63, x64, x65, x66, x67, x68, x69, x70, x71, x72, x73, x74, x75, x76, x77, x78, x79, x80, x81], []⟩ W := by
  conv => arg 2; whnf
  have HN : Hid (∀ (y50 : Value), z = false → Q .normal ⟨#[x0, x1, x2, x3, x4, x5, x6, x7, .bool z, x9, x10, x11, x12, x13, x14, x15, x16, x17, x18, x19, x20, x21, x22, x23, x24, x25, x26, x27, x28, x29, x30, x31, x32, x33, x34, x35, x36, x37, x38, x39, x40, x41, x42, x43, x44, x45, x46, x47, x48, x49, y50, x51, x52, x53, x54, x55, x56, x57, x58, x59, x60, x61, x62, x63, x64, x65, x66, x67, x68, x69, x70, x71, x72, x73, x74, x75, x76, x77, x78, x79, x80, x81], []⟩ W) := hN
  have HE : Hid (∀ (y50 : Value), z = true → Q (.exit 1) ⟨#[x0, x1, x2, x3, x4, x5, x6, x7, .bool z, x9, x10, x11, x12, x13, x14, x15, x16, x17, x18, x19, x20, x21, x22, x23, x24, x25, x26, x27, x28, x29, x30, x31, x32, x33, x34, x35, x36, x37, x38, x39, x40, x41, x42, x43, x44, x45, x46, x47, x48, x49, y50, x51, x52, x53, x54, x55, x56, x57, x58, x59, x60, x61, x62, x63, x64, x65, x66, x67, x68, x69, x70, x71, x72, x73, x74, x75, x76, x77, x78, x79, x80, x81], []⟩ W) := hE
  clear hN hE
  cases z with
  | true =>
    clear HN
    go_wp2_with fail
    exact HE.out  _ (by trivial)
  | false =>
    clear HE
    go_wp2_with fail
    exact HN.out  _ (by trivial)

set_option maxRecDepth 100000 in
set_option maxHeartbeats 12800000 in
theorem of_p11 {x0 x1 x2 x3 x4 x5 x6 x7 x8 x9 x10 x11 x12 x13 x14 x15 x16 x17 x18 x19 x20 x21 x22 x23 x24 x25 x26 x27 x28 x29 x30 x31 x32 x33 x34 x35 x36 x37 x38 x39 x40 x41 x42 x43 x44 x45 x46 x47 x48 x49 x50 x51 x52 x53 x54 x55 x56 x57 x58 x59 x60 x61 x62 x63 x64 x65 x66 x67 x68 x69 x70 x71 x72 x73 x74 x75 x76 x77 x78 x79 x80 x81 : Value} {Q : Exit → Act → World → Prop} {W : World} 
    (hN : Q .normal ⟨#[x0, x1, x2, x3, x4, x5, x6, x7, x8, .int .u64 1, x10, x11, x12, x13, x14, x15, x16, x17, x18, x19, x20, x21, x22, x23, x24, x25, x26, x27, x28, x29, x30, x31, x32, x33, x34, x35, x36, x37, x38, x39, x40, x41, x42, x43, x44, x45, x46, x47, x48, x49, x50, x51, x52, x53, x54, x55, x56, x57, x58, x59, x60, x61, x62, x63, x64, x65, x66, x67, x68, x69, x70, x71, x72, x73, x74, x75, x76, x77, x78, x79, x80, x81], []⟩ W) :
    Code.wp Try.prog (((Try.f12.body.bind (pcBlk 1)).bind (pcAt 11)).getD .skip) Q ⟨#[x0, x1, x2, x3, x4, x5, x6, x7, x8, x9, x10, x11, x12, x13, x14, x15, x16, x17, x18, x19, x20, x21, x22, x23, x24, x25, x26, x27, x28, x29, x30, x31, x32, x33, x34, x35, x36, x37, x38, x39, x40, x41, x42, x43, x44, x45, x46, x47, x48, x49, x50, x51, x52, x53, x54, x55, x56, x57, x58, x59, x60, x61, x62, x63, x64, x65, x66, x67, x68, x69, x70, x71, x72, x73, x74, x75, x76, x77, x78, x79, x80, x81], []⟩ W := by
  conv => arg 2; whnf
  have HN : Hid (Q .normal ⟨#[x0, x1, x2, x3, x4, x5, x6, x7, x8, .int .u64 1, x10, x11, x12, x13, x14, x15, x16, x17, x18, x19, x20, x21, x22, x23, x24, x25, x26, x27, x28, x29, x30, x31, x32, x33, x34, x35, x36, x37, x38, x39, x40, x41, x42, x43, x44, x45, x46, x47, x48, x49, x50, x51, x52, x53, x54, x55, x56, x57, x58, x59, x60, x61, x62, x63, x64, x65, x66, x67, x68, x69, x70, x71, x72, x73, x74, x75, x76, x77, x78, x79, x80, x81], []⟩ W) := hN
  clear hN
  go_wp2_with fail
  exact HN.out   

set_option maxRecDepth 100000 in
set_option maxHeartbeats 12800000 in
theorem of_l2 {x0 x2 x3 x4 x5 x6 x8 x10 x11 x12 x13 x14 x15 x16 x17 x18 x19 x20 x21 x22 x23 x24 x25 x26 x27 x28 x29 x30 x31 x32 x33 x34 x35 x36 x37 x38 x39 x40 x41 x42 x43 x44 x45 x46 x47 x48 x49 x50 x51 x52 x53 x54 x55 x56 x57 x58 x59 x60 x61 x62 x63 x64 x65 x66 x67 x68 x69 x70 x71 x72 x73 x74 x75 x76 x77 x78 x79 x80 x81 : Value} {Q : Exit → Act → World → Prop} {W : World} {b off len cap i x : Nat} (hlt : i < len) (cx : W.cell? ⟨b, off + i, none⟩ = some (.int .i64 (x : Int)))
    (hN : ∀ (y10 y51 y52 y53 y54 y55 y56 y57 y58 y59 y60 y61 : Value), Q .normal ⟨#[x0, .slice (some ⟨b, off, none⟩) len cap, x2, x3, x4, x5, x6, .int .i64 (i : Int), x8, .int .u64 ((2 ^ (x % 64) : Nat) : Int), y10, x11, x12, x13, x14, x15, x16, x17, x18, x19, x20, x21, x22, x23, x24, x25, x26, x27, x28, x29, x30, x31, x32, x33, x34, x35, x36, x37, x38, x39, x40, x41, x42, x43, x44, x45, x46, x47, x48, x49, x50, y51, y52, y53, y54, y55, y56, y57, y58, y59, y60, y61, x62, x63, x64, x65, x66, x67, x68, x69, x70, x71, x72, x73, x74, x75, x76, x77, x78, x79, x80, x81], []⟩ W) :
    Code.wp Try.prog (((Try.f12.body.bind (pcBlk 1)).bind (pcAt 12)).getD .skip) Q ⟨#[x0, .slice (some ⟨b, off, none⟩) len cap, x2, x3, x4, x5, x6, .int .i64 (i : Int), x8, .int .u64 1, x10, x11, x12, x13, x14, x15, x16, x17, x18, x19, x20, x21, x22, x23, x24, x25, x26, x27, x28, x29, x30, x31, x32, x33, x34, x35, x36, x37, x38, x39, x40, x41, x42, x43, x44, x45, x46, x47, x48, x49, x50, x51, x52, x53, x54, x55, x56, x57, x58, x59, x60, x61, x62, x63, x64, x65, x66, x67, x68, x69, x70, x71, x72, x73, x74, x75, x76, x77, x78, x79, x80, x81], []⟩ W := by
  conv => arg 2; whnf
  have HN : Hid (∀ (y10 y51 y52 y53 y54 y55 y56 y57 y58 y59 y60 y61 : Value), Q .normal ⟨#[x0, .slice (some ⟨b, off, none⟩) len cap, x2, x3, x4, x5, x6, .int .i64 (i : Int), x8, .int .u64 ((2 ^ (x % 64) : Nat) : Int), y10, x11, x12, x13, x14, x15, x16, x17, x18, x19, x20, x21, x22, x23, x24, x25, x26, x27, x28, x29, x30, x31, x32, x33, x34, x35, x36, x37, x38, x39, x40, x41, x42, x43, x44, x45, x46, x47, x48, x49, x50, y51, y52, y53, y54, y55, y56, y57, y58, y59, y60, y61, x62, x63, x64, x65, x66, x67, x68, x69, x70, x71, x72, x73, x74, x75, x76, x77, x78, x79, x80, x81], []⟩ W) := hN
  clear hN
  have hlti : (i : Int) < (len : Int) := by omega
  have hi0 : (0 : Int) ≤ (i : Int) := by omega
  obtain ⟨r, hr⟩ : ∃ r, r = x % 64 := ⟨_, rfl⟩
  rw [← hr] at HN
  have d2 : (x : Int).tmod 64 = (r : Int) := by rw [Int.tmod_eq_emod_of_nonneg (by omega)]; omega
  have hr64 : r < 64 := by omega
  have hwr : RowKit.wrap64 (r : Int) = (r : Int) := by unfold RowKit.wrap64; omega
  clear hr
  refine pcSeq (fun Q1 n1 r1 _ => ?_)
  go_wp2_with fail
  refine n1 _ _ (pcBlock (fun Q2 n2 e2 r2 => ?_))
  go_loopw [9, 10] (fun v9 v10 wr => W = wr ∧ ∃ k : Nat, v10 = .int .i64 (k : Int) ∧ k ≤ r ∧ v9 = .int .u64 ((2 ^ k : Nat) : Int)) (fun _ v10 _ => r - (intOf v10).toNat)
  case atStart => exact ⟨by trivial, 0, rfl, Nat.zero_le _, rfl⟩
  case round =>
    obtain ⟨rfl, k, rfl, hk, rfl⟩ := hrel
    obtain ⟨y, hy⟩ : ∃ y, y = 2 ^ k := ⟨_, rfl⟩
    rw [← hy]
    by_cases hlt2 : k < r
    · have hkd : decide (k < r) = true := decide_eq_true hlt2
      have hy2 : y ≤ 4611686018427387904 := by
        rw [hy]
        exact (Nat.pow_le_pow_right (by decide) (by omega) : 2 ^ k ≤ 2 ^ 62)
      have HY : Hid (y * 2 = 2 ^ (k + 1) ∧ k < r) := ⟨by rw [hy, Nat.pow_succ], hlt2⟩
      obtain ⟨z, hz⟩ : ∃ z, z = y * 2 := ⟨_, rfl⟩
      have ez : (y : Int) * 2 = (z : Int) := by omega
      have hwz : IntKind.u64.wrap (z : Int) = (z : Int) := by simp [IntKind.wrap, IntKind.signed, IntKind.bits]; omega
      have HZ : Hid (z = 2 ^ (k + 1)) := by show _ = _; rw [hz]; exact HY.out.1
      clear hy hlt2 hz
      go_wp2_with fail
      go_roundw
      case rel => exact ⟨by trivial, k + 1, by go_num, HY.out.2, by rw [← HZ.out]⟩
      case measure => have := HY.out.2; simp [intOf]; omega
    · obtain rfl : k = r := by omega
      have hkd : decide (k < k) = false := decide_eq_false (by omega)
      rw [← hy] at HN
      clear hy hlt2
      go_wp2_with fail
      exact e2 _ _ (HN.out  _ _ _ _ _ _ _ _ _ _ _ _ )

end Go.Proofs.Ytfgccldkbolkoaa

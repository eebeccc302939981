/-
  The document's Weight: its statements. Written by mk/r16w.py.
-/
import Derived.Test.YtpeefhkadeoioaaRef16B
import Derived.Test.YtpeefhkadeoioaaWAtA
import Derived.Test.YtpeefhkadeoioaaModR
import Derived.Deep.RegionWith
import Derived.Deep.RegionHeld3
import Derived.BigRegion
namespace Go.Proofs.Ytpeefhkadeoioaa
open Go.RowKit

/-- A variable that holds sums. -/
def SVar (W : World) (g : Nat) (G H : Int) : Prop := W.heap[g]? = some (.cells #[.int .i64 G, .int .i64 H] 31 (0, 0))
theorem SVar.cell {W : World} {g : Nat} {G H : Int} (h : SVar W g G H) : W.cell? ⟨g, 0, none⟩ = some (.int .i64 G) ∧ W.cell? ⟨g, 1, none⟩ = some (.int .i64 H) := ⟨by rw [cell_of_row _ _ _ _ _ _ h]; rfl, by rw [cell_of_row _ _ _ _ _ _ h]; rfl⟩
theorem SVar.lt {W : World} {g : Nat} {G H : Int} (h : SVar W g G H) : g < W.heap.size := (Array.getElem?_eq_some_iff.1 h).1
theorem SVar.below {W W' : World} {g : Nat} {G H : Int} (h : SVar W g G H) (hb : Below W.heap.size W W') : SVar W' g G H := (hb.block g h.lt).trans h

theorem big16 {x : Int} (h : -2305843009213693952 ≤ x ∧ x ≤ 2305843009213693952) : ((x.natAbs : Nat) : Int) < 18446744073709551616 ^ 64 := by
  have h1 : ((x.natAbs : Nat) : Int) < 18446744073709551616 := by omega
  exact Int.lt_of_lt_of_le h1 (by decide)

set_option maxRecDepth 100000 in
set_option maxHeartbeats 12800000 in
theorem wt_p0 {x2 x3 x4 x5 x6 x7 x8 x9 x10 x11 x12 x13 x14 x15 x16 x17 x18 x19 x20 x21 x22 x23 x24 x25 x26 x27 x28 x29 x30 x31 x32 x33 x34 x35 x36 x37 x38 x39 x40 x41 x42 x43 x44 x45 x46 x47 x48 x49 x50 x51 x52 x53 x54 x55 x56 x57 x58 x59 x60 x61 x62 x63 : Value} {Q : Exit → Act → World → Prop} {W : World} {c : Cfg} {G H : Int} 
    (hN : Q .normal ⟨#[.agg #[.int .i64 c.T, .int .i64 c.D, .int .i64 c.L, .int .i64 c.G, .int .i64 c.N, .int .i64 c.E, .int .i64 c.S, .int .i64 c.C], .agg #[.int .i64 G, .int .i64 H], .pointer (some ⟨W.heap.size, 0, none⟩), .pointer (some ⟨(W.heap.size + 1), 0, none⟩), .int .i64 0, .int .i64 0, x6, x7, x8, x9, x10, x11, x12, x13, x14, x15, x16, x17, x18, x19, x20, x21, x22, x23, x24, x25, x26, x27, x28, x29, x30, x31, x32, x33, x34, x35, x36, x37, x38, x39, x40, x41, x42, x43, x44, x45, x46, x47, x48, x49, x50, x51, x52, x53, x54, x55, x56, x57, x58, x59, x60, x61, x62, x63], []⟩ ((W.alloc (.cells #[.int .i64 c.T, .int .i64 c.D, .int .i64 c.L, .int .i64 c.G, .int .i64 c.N, .int .i64 c.E, .int .i64 c.S, .int .i64 c.C] 23)).alloc (.cells #[.int .i64 G, .int .i64 H] 31))) :
    Code.wp Try.prog ((Try.f14.body.bind (pcAt 0)).getD .skip) Q ⟨#[.agg #[.int .i64 c.T, .int .i64 c.D, .int .i64 c.L, .int .i64 c.G, .int .i64 c.N, .int .i64 c.E, .int .i64 c.S, .int .i64 c.C], .agg #[.int .i64 G, .int .i64 H], x2, x3, x4, x5, x6, x7, x8, x9, x10, x11, x12, x13, x14, x15, x16, x17, x18, x19, x20, x21, x22, x23, x24, x25, x26, x27, x28, x29, x30, x31, x32, x33, x34, x35, x36, x37, x38, x39, x40, x41, x42, x43, x44, x45, x46, x47, x48, x49, x50, x51, x52, x53, x54, x55, x56, x57, x58, x59, x60, x61, x62, x63], []⟩ W := by
  conv => arg 2; whnf
  have HN : Hid (Q .normal ⟨#[.agg #[.int .i64 c.T, .int .i64 c.D, .int .i64 c.L, .int .i64 c.G, .int .i64 c.N, .int .i64 c.E, .int .i64 c.S, .int .i64 c.C], .agg #[.int .i64 G, .int .i64 H], .pointer (some ⟨W.heap.size, 0, none⟩), .pointer (some ⟨(W.heap.size + 1), 0, none⟩), .int .i64 0, .int .i64 0, x6, x7, x8, x9, x10, x11, x12, x13, x14, x15, x16, x17, x18, x19, x20, x21, x22, x23, x24, x25, x26, x27, x28, x29, x30, x31, x32, x33, x34, x35, x36, x37, x38, x39, x40, x41, x42, x43, x44, x45, x46, x47, x48, x49, x50, x51, x52, x53, x54, x55, x56, x57, x58, x59, x60, x61, x62, x63], []⟩ ((W.alloc (.cells #[.int .i64 c.T, .int .i64 c.D, .int .i64 c.L, .int .i64 c.G, .int .i64 c.N, .int .i64 c.E, .int .i64 c.S, .int .i64 c.C] 23)).alloc (.cells #[.int .i64 G, .int .i64 H] 31))) := hN
  clear hN
  go_wp2_with fail
  exact HN.out   

set_option maxRecDepth 100000 in
set_option maxHeartbeats 12800000 in
theorem wt_p1 {x0 x1 x3 x4 x5 x6 x7 x8 x9 x10 x11 x12 x13 x14 x15 x16 x17 x18 x19 x20 x21 x22 x23 x24 x25 x26 x27 x28 x29 x30 x31 x32 x33 x34 x35 x36 x37 x38 x39 x40 x41 x42 x43 x44 x45 x46 x47 x48 x49 x50 x51 x52 x53 x54 x55 x56 x57 x58 x59 x60 x61 x62 x63 : Value} {Q : Exit → Act → World → Prop} {W : World} {g : Nat} {c : Cfg} (hv : CVar W g c)
    (hN : ∀ (z : Bool) (wx : World) (y17 y18 : Value), (z = true ↔ CfgOk c) → Below W.heap.size W wx → Q .normal ⟨#[x0, x1, .pointer (some ⟨g, 0, none⟩), x3, x4, x5, .bool z, x7, x8, x9, x10, x11, x12, x13, x14, x15, x16, y17, y18, x19, x20, x21, x22, x23, x24, x25, x26, x27, x28, x29, x30, x31, x32, x33, x34, x35, x36, x37, x38, x39, x40, x41, x42, x43, x44, x45, x46, x47, x48, x49, x50, x51, x52, x53, x54, x55, x56, x57, x58, x59, x60, x61, x62, x63], []⟩ wx) :
    Code.wp Try.prog ((Try.f14.body.bind (pcAt 1)).getD .skip) Q ⟨#[x0, x1, .pointer (some ⟨g, 0, none⟩), x3, x4, x5, x6, x7, x8, x9, x10, x11, x12, x13, x14, x15, x16, x17, x18, x19, x20, x21, x22, x23, x24, x25, x26, x27, x28, x29, x30, x31, x32, x33, x34, x35, x36, x37, x38, x39, x40, x41, x42, x43, x44, x45, x46, x47, x48, x49, x50, x51, x52, x53, x54, x55, x56, x57, x58, x59, x60, x61, x62, x63], []⟩ W := by
  conv => arg 2; whnf
  have HN : Hid (∀ (z : Bool) (wx : World) (y17 y18 : Value), (z = true ↔ CfgOk c) → Below W.heap.size W wx → Q .normal ⟨#[x0, x1, .pointer (some ⟨g, 0, none⟩), x3, x4, x5, .bool z, x7, x8, x9, x10, x11, x12, x13, x14, x15, x16, y17, y18, x19, x20, x21, x22, x23, x24, x25, x26, x27, x28, x29, x30, x31, x32, x33, x34, x35, x36, x37, x38, x39, x40, x41, x42, x43, x44, x45, x46, x47, x48, x49, x50, x51, x52, x53, x54, x55, x56, x57, x58, x59, x60, x61, x62, x63], []⟩ wx) := hN
  clear hN
  obtain ⟨x0, x1, x2, x3, x4, x5, x6, x7⟩ := hv.cell
  have HC := (show Hid _ from r16right_any c W)
  clear hv
  go_wp2_with fail
  refine Calls.mono HC.out ?_
  rintro e wx ⟨z, rfl, h1, h2⟩
  have HT : Hid ((z = true ↔ CfgOk c) ∧ Below W.heap.size W wx) := ⟨h1, h2⟩
  clear h1 h2 HC x0 x1 x2 x3 x4 x5 x6 x7
  dsimp only
  go_wp2_with fail
  exact HN.out z wx _ _ HT.out.1 HT.out.2

set_option maxRecDepth 100000 in
set_option maxHeartbeats 12800000 in
theorem wt_p2 {x0 x1 x2 x4 x5 x6 x7 x8 x9 x10 x11 x12 x13 x14 x15 x16 x17 x18 x19 x20 x21 x22 x23 x24 x25 x26 x27 x28 x29 x30 x31 x32 x33 x34 x35 x36 x37 x38 x39 x40 x41 x42 x43 x44 x45 x46 x47 x48 x49 x50 x51 x52 x53 x54 x55 x56 x57 x58 x59 x60 x61 x62 x63 : Value} {Q : Exit → Act → World → Prop} {W : World} {s : Nat} {G H : Int} (hs : SVar W s G H)
    (hN : ∀ (z : Bool) (wx : World) (y19 y20 : Value), (z = true ↔ SumOk G H) → Below W.heap.size W wx → Q .normal ⟨#[x0, x1, x2, .pointer (some ⟨s, 0, none⟩), x4, x5, x6, .bool z, x8, x9, x10, x11, x12, x13, x14, x15, x16, x17, x18, y19, y20, x21, x22, x23, x24, x25, x26, x27, x28, x29, x30, x31, x32, x33, x34, x35, x36, x37, x38, x39, x40, x41, x42, x43, x44, x45, x46, x47, x48, x49, x50, x51, x52, x53, x54, x55, x56, x57, x58, x59, x60, x61, x62, x63], []⟩ wx) :
    Code.wp Try.prog ((Try.f14.body.bind (pcAt 2)).getD .skip) Q ⟨#[x0, x1, x2, .pointer (some ⟨s, 0, none⟩), x4, x5, x6, x7, x8, x9, x10, x11, x12, x13, x14, x15, x16, x17, x18, x19, x20, x21, x22, x23, x24, x25, x26, x27, x28, x29, x30, x31, x32, x33, x34, x35, x36, x37, x38, x39, x40, x41, x42, x43, x44, x45, x46, x47, x48, x49, x50, x51, x52, x53, x54, x55, x56, x57, x58, x59, x60, x61, x62, x63], []⟩ W := by
  conv => arg 2; whnf
  have HN : Hid (∀ (z : Bool) (wx : World) (y19 y20 : Value), (z = true ↔ SumOk G H) → Below W.heap.size W wx → Q .normal ⟨#[x0, x1, x2, .pointer (some ⟨s, 0, none⟩), x4, x5, x6, .bool z, x8, x9, x10, x11, x12, x13, x14, x15, x16, x17, x18, y19, y20, x21, x22, x23, x24, x25, x26, x27, x28, x29, x30, x31, x32, x33, x34, x35, x36, x37, x38, x39, x40, x41, x42, x43, x44, x45, x46, x47, x48, x49, x50, x51, x52, x53, x54, x55, x56, x57, x58, x59, x60, x61, x62, x63], []⟩ wx) := hN
  clear hN
  obtain ⟨x0, x1⟩ := hs.cell
  have HC := (show Hid _ from r16sum_any G H W)
  clear hs
  go_wp2_with fail
  refine Calls.mono HC.out ?_
  rintro e wx ⟨z, rfl, h1, h2⟩
  have HT : Hid ((z = true ↔ SumOk G H) ∧ Below W.heap.size W wx) := ⟨h1, h2⟩
  clear h1 h2 HC x0 x1
  dsimp only
  go_wp2_with fail
  exact HN.out z wx _ _ HT.out.1 HT.out.2

set_option maxRecDepth 100000 in
set_option maxHeartbeats 12800000 in
theorem wt_p3 {x0 x1 x2 x3 x4 x5 x8 x9 x10 x11 x12 x13 x14 x15 x16 x17 x18 x19 x20 x21 x22 x23 x24 x25 x26 x27 x28 x29 x30 x31 x32 x33 x34 x35 x36 x37 x38 x39 x40 x41 x42 x43 x44 x45 x46 x47 x48 x49 x50 x51 x52 x53 x54 x55 x56 x57 x58 x59 x60 x61 x62 x63 : Value} {Q : Exit → Act → World → Prop} {W : World} {z y : Bool} 
    (hN : ∀ (y4 y5 y21 y22 y23 y24 y25 y26 : Value), z = true → y = true → Q .normal ⟨#[x0, x1, x2, x3, y4, y5, .bool z, .bool y, x8, x9, x10, x11, x12, x13, x14, x15, x16, x17, x18, x19, x20, y21, y22, y23, y24, y25, y26, x27, x28, x29, x30, x31, x32, x33, x34, x35, x36, x37, x38, x39, x40, x41, x42, x43, x44, x45, x46, x47, x48, x49, x50, x51, x52, x53, x54, x55, x56, x57, x58, x59, x60, x61, x62, x63], []⟩ W)
    (hR : ∀ (y21 y22 y23 y24 y25 y26 : Value), ¬ (z = true ∧ y = true) → Q .ret ⟨#[x0, x1, x2, x3, .int .i64 0, .int .i64 1, .bool z, .bool y, x8, x9, x10, x11, x12, x13, x14, x15, x16, x17, x18, x19, x20, y21, y22, y23, y24, y25, y26, x27, x28, x29, x30, x31, x32, x33, x34, x35, x36, x37, x38, x39, x40, x41, x42, x43, x44, x45, x46, x47, x48, x49, x50, x51, x52, x53, x54, x55, x56, x57, x58, x59, x60, x61, x62, x63], []⟩ W) :
    Code.wp Try.prog ((Try.f14.body.bind (pcAt 3)).getD .skip) Q ⟨#[x0, x1, x2, x3, x4, x5, .bool z, .bool y, x8, x9, x10, x11, x12, x13, x14, x15, x16, x17, x18, x19, x20, x21, x22, x23, x24, x25, x26, x27, x28, x29, x30, x31, x32, x33, x34, x35, x36, x37, x38, x39, x40, x41, x42, x43, x44, x45, x46, x47, x48, x49, x50, x51, x52, x53, x54, x55, x56, x57, x58, x59, x60, x61, x62, x63], []⟩ W := by
  conv => arg 2; whnf
  have HN : Hid (∀ (y4 y5 y21 y22 y23 y24 y25 y26 : Value), z = true → y = true → Q .normal ⟨#[x0, x1, x2, x3, y4, y5, .bool z, .bool y, x8, x9, x10, x11, x12, x13, x14, x15, x16, x17, x18, x19, x20, y21, y22, y23, y24, y25, y26, x27, x28, x29, x30, x31, x32, x33, x34, x35, x36, x37, x38, x39, x40, x41, x42, x43, x44, x45, x46, x47, x48, x49, x50, x51, x52, x53, x54, x55, x56, x57, x58, x59, x60, x61, x62, x63], []⟩ W) := hN
  have HR : Hid (∀ (y21 y22 y23 y24 y25 y26 : Value), ¬ (z = true ∧ y = true) → Q .ret ⟨#[x0, x1, x2, x3, .int .i64 0, .int .i64 1, .bool z, .bool y, x8, x9, x10, x11, x12, x13, x14, x15, x16, x17, x18, x19, x20, y21, y22, y23, y24, y25, y26, x27, x28, x29, x30, x31, x32, x33, x34, x35, x36, x37, x38, x39, x40, x41, x42, x43, x44, x45, x46, x47, x48, x49, x50, x51, x52, x53, x54, x55, x56, x57, x58, x59, x60, x61, x62, x63], []⟩ W) := hR
  clear hN hR
  cases z with
  | false =>
    clear HN
    go_wp2_with fail
    exact HR.out  _ _ _ _ _ _ (fun e => by cases e.1)
  | true =>
    cases y with
    | false =>
      clear HN
      go_wp2_with fail
      exact HR.out  _ _ _ _ _ _ (fun e => by cases e.2)
    | true =>
      clear HR
      go_wp2_with fail
      exact HN.out  _ _ _ _ _ _ _ _ (by trivial) (by trivial)

set_option maxRecDepth 100000 in
set_option maxHeartbeats 12800000 in
theorem wt_p5 {x0 x1 x4 x5 x6 x7 x8 x9 x10 x11 x12 x13 x14 x15 x16 x17 x18 x19 x20 x21 x22 x23 x24 x25 x26 x27 x28 x29 x30 x31 x32 x33 x34 x35 x36 x37 x38 x39 x40 x41 x42 x43 x44 x45 x46 x47 x48 x49 x50 x51 x52 x53 x54 x55 x56 x57 x58 x59 x60 x61 x62 x63 : Value} {Q : Exit → Act → World → Prop} {W : World} {g s : Nat} {c : Cfg} {G H : Int} (hv : CVar W g c) (hs : SVar W s G H) (hok : CfgOk c) (hsm : SumOk G H)
    (hN : ∀ (s8 : Nat) (wx : World) (y9 y27 y28 y29 y30 y31 y32 y33 y34 y35 y36 y37 : Value), Fac wx s8 (-G * c.N) → Below W.heap.size W wx → Q .normal ⟨#[x0, x1, .pointer (some ⟨g, 0, none⟩), .pointer (some ⟨s, 0, none⟩), x4, x5, x6, x7, .pointer (some ⟨s8, 0, none⟩), y9, x10, x11, x12, x13, x14, x15, x16, x17, x18, x19, x20, x21, x22, x23, x24, x25, x26, y27, y28, y29, y30, y31, y32, y33, y34, y35, y36, y37, x38, x39, x40, x41, x42, x43, x44, x45, x46, x47, x48, x49, x50, x51, x52, x53, x54, x55, x56, x57, x58, x59, x60, x61, x62, x63], []⟩ wx) :
    Code.wp Try.prog ((Try.f14.body.bind (pcAt 5)).getD .skip) Q ⟨#[x0, x1, .pointer (some ⟨g, 0, none⟩), .pointer (some ⟨s, 0, none⟩), x4, x5, x6, x7, x8, x9, x10, x11, x12, x13, x14, x15, x16, x17, x18, x19, x20, x21, x22, x23, x24, x25, x26, x27, x28, x29, x30, x31, x32, x33, x34, x35, x36, x37, x38, x39, x40, x41, x42, x43, x44, x45, x46, x47, x48, x49, x50, x51, x52, x53, x54, x55, x56, x57, x58, x59, x60, x61, x62, x63], []⟩ W := by
  conv => arg 2; whnf
  have HN : Hid (∀ (s8 : Nat) (wx : World) (y9 y27 y28 y29 y30 y31 y32 y33 y34 y35 y36 y37 : Value), Fac wx s8 (-G * c.N) → Below W.heap.size W wx → Q .normal ⟨#[x0, x1, .pointer (some ⟨g, 0, none⟩), .pointer (some ⟨s, 0, none⟩), x4, x5, x6, x7, .pointer (some ⟨s8, 0, none⟩), y9, x10, x11, x12, x13, x14, x15, x16, x17, x18, x19, x20, x21, x22, x23, x24, x25, x26, y27, y28, y29, y30, y31, y32, y33, y34, y35, y36, y37, x38, x39, x40, x41, x42, x43, x44, x45, x46, x47, x48, x49, x50, x51, x52, x53, x54, x55, x56, x57, x58, x59, x60, x61, x62, x63], []⟩ wx) := hN
  clear hN
  have x0 := hs.cell.1
  have x1 := hv.cell.2.2.2.2.1
  have z0 := hv.lt
  have z1 := hs.lt
  have hsz : -2305843009213693952 ≤ -G * c.N ∧ -G * c.N ≤ 2305843009213693952 := by have := num_size hok hsm; omega
  have q1 := hok.n
  have q2 := hok.e
  have q3 := hsm.1
  have q4 := hsm.2.1
  obtain ⟨A1, hA1⟩ : ∃ A1, A1 = -G := ⟨_, rfl⟩
  obtain ⟨A2, hA2⟩ : ∃ A2, A2 = c.N := ⟨_, rfl⟩
  have b1 : -9223372036854775808 ≤ A1 ∧ A1 < 9223372036854775808 := by omega
  have b2 : -9223372036854775808 ≤ A2 ∧ A2 < 9223372036854775808 := by omega
  have hX : ((A1 * A2).natAbs : Int) < 18446744073709551616 ^ 64 := by rw [hA1, hA2]; exact big16 hsz
  rw [← hA1, ← hA2] at HN
  rw [← hA2] at x1
  have HRB : Hid (Below W.heap.size W W) := Below.refl _ _
  have HO1 : Hid (∀ wx : World, Below W.heap.size W wx → Calls Try.prog 27 #[.int .i64 A1] wx fun e w' => ∃ pp aa ll kk, e = .returned (.agg #[.bool pp, .slice aa ll kk]) ∧ Hid (WAt w' pp aa ll kk A1 ∧ Below W.heap.size W w') ∧ (w'.cell? ⟨s, 0, none⟩ = some (.int .i64 G) ∧ w'.cell? ⟨g, 4, none⟩ = some (.int .i64 A2)) ∧ (g < w'.heap.size ∧ s < w'.heap.size) ∧ (∀ b o, b < wx.heap.size → w'.cell? ⟨b, o, none⟩ = wx.cell? ⟨b, o, none⟩) ∧ (∀ b o, b < wx.heap.size → w'.frozen? ⟨b, o, none⟩ = wx.frozen? ⟨b, o, none⟩) ∧ (∀ b, b < wx.heap.size → b < w'.heap.size)) := by
    intro wx hbx
    refine (refIOf_any A1 wx b1).mono ?_
    rintro e w' ⟨a', n', c', rfl, hn, hb⟩
    have hb' := bthen hbx hb
    exact ⟨_, _, _, _, rfl, ⟨⟨_, hn, IsW.of b1⟩, hb'⟩, ⟨bkeep hb' x0 rfl, bkeep hb' x1 rfl⟩, ⟨Nat.lt_of_lt_of_le z0 hb'.size, Nat.lt_of_lt_of_le z1 hb'.size⟩, bfactsD hb⟩
  have HO2 : Hid (∀ (wx : World) p1 a1 l1 c1, WAt wx p1 a1 l1 c1 A1 → Below W.heap.size W wx → Calls Try.prog 27 #[.int .i64 A2] wx fun e w' => ∃ pp aa ll kk, e = .returned (.agg #[.bool pp, .slice aa ll kk]) ∧ Hid (WAt w' p1 a1 l1 c1 A1 ∧ WAt w' pp aa ll kk A2 ∧ Below W.heap.size W w') ∧ (w'.cell? ⟨s, 0, none⟩ = some (.int .i64 G) ∧ w'.cell? ⟨g, 4, none⟩ = some (.int .i64 A2)) ∧ (g < w'.heap.size ∧ s < w'.heap.size) ∧ (∀ b o, b < wx.heap.size → w'.cell? ⟨b, o, none⟩ = wx.cell? ⟨b, o, none⟩) ∧ (∀ b o, b < wx.heap.size → w'.frozen? ⟨b, o, none⟩ = wx.frozen? ⟨b, o, none⟩) ∧ (∀ b, b < wx.heap.size → b < w'.heap.size)) := by
    intro wx p1 a1 l1 c1 hw hbx
    refine (refIOf_any A2 wx b2).mono ?_
    rintro e w' ⟨a', n', c', rfl, hn, hb⟩
    have hb' := bthen hbx hb
    exact ⟨_, _, _, _, rfl, ⟨hw.below hb, ⟨_, hn, IsW.of b2⟩, hb'⟩, ⟨bkeep hb' x0 rfl, bkeep hb' x1 rfl⟩, ⟨Nat.lt_of_lt_of_le z0 hb'.size, Nat.lt_of_lt_of_le z1 hb'.size⟩, bfactsD hb⟩
  have HMu : Hid (∀ (wx : World) p1 a1 l1 c1 p2 a2 l2 c2, WAt wx p1 a1 l1 c1 A1 → WAt wx p2 a2 l2 c2 A2 → Below W.heap.size W wx → Calls Try.prog 26 #[.agg #[.bool p1, .slice a1 l1 c1], .agg #[.bool p2, .slice a2 l2 c2]] wx fun e w' => ∃ pp aa ll kk, e = .returned (.tuple #[.agg #[.bool pp, .slice aa ll kk], .int .i64 0]) ∧ Hid (WAt w' pp aa ll kk (A1 * A2) ∧ Below W.heap.size W w') ∧ (w'.cell? ⟨s, 0, none⟩ = some (.int .i64 G) ∧ w'.cell? ⟨g, 4, none⟩ = some (.int .i64 A2)) ∧ (g < w'.heap.size ∧ s < w'.heap.size) ∧ (∀ b o, b < wx.heap.size → w'.cell? ⟨b, o, none⟩ = wx.cell? ⟨b, o, none⟩) ∧ (∀ b o, b < wx.heap.size → w'.frozen? ⟨b, o, none⟩ = wx.frozen? ⟨b, o, none⟩) ∧ (∀ b, b < wx.heap.size → b < w'.heap.size)) := by
    rintro wx p1 a1 l1 c1 p2 a2 l2 c2 ⟨ys, hy, hyW⟩ ⟨vs, hv, hvW⟩ hbx
    refine (refIMul_any p1 p2 _ _ _ _ _ _ _ _ wx hy hv).mono ?_
    rintro e w' ⟨q, a', n', c', ls, err, rfl, hn, hRes, hb⟩
    have hb' := bthen hbx hb
    have := hRes.got hyW.2.1 hvW.2.1
    rw [hyW.2.2, hvW.2.2] at this
    obtain ⟨h3, rfl⟩ := IsW.res this hX
    exact ⟨_, _, _, _, rfl, ⟨⟨_, hn, h3⟩, hb'⟩, ⟨bkeep hb' x0 rfl, bkeep hb' x1 rfl⟩, ⟨Nat.lt_of_lt_of_le z0 hb'.size, Nat.lt_of_lt_of_le z1 hb'.size⟩, bfactsD hb⟩
  have HA : Hid (A1 = -G ∧ A2 = c.N) := ⟨hA1, hA2⟩
  have ne00 := World.new_ne W ⟨s, 0, none⟩ x0
  have ne01 := World.new_ne W ⟨g, 4, none⟩ x1
  have e1 : -G = A1 := hA1.symm
  have e2 : c.N = A2 := hA2.symm
  clear hX b1 b2 hA1 hA2 hsz hv hs hok hsm z0 z1
  have hwn : RowKit.wrap64 A1 = A1 := by unfold RowKit.wrap64; omega
  have hwm : IntKind.i64.wrap A1 = A1 := by rw [IntKind.wrap_i64]; omega
  clear q1 q2 q3 q4 e2
  refine wp_pcOnly ?_
  go_wp2_with fail
  go_region_held3 (fun w' => (w'.cell? ⟨s, 0, none⟩ = some (.int .i64 G) ∧ w'.cell? ⟨g, 4, none⟩ = some (.int .i64 A2))) (first | go_keep | exact ⟨r0, r1⟩ | exact ⟨o0, o1⟩ | exact ⟨n0, n1⟩ | exact ⟨(put2_other (by omega) _ _).trans r0, (put2_other (by omega) _ _).trans r1⟩ | exact ⟨(put2_other (by omega) _ _).trans o0, (put2_other (by omega) _ _).trans o1⟩ | exact ⟨(put2_other (by omega) _ _).trans n0, (put2_other (by omega) _ _).trans n1⟩)
    (first
    | (go_at_call 27; with_reducible refine Calls.mono (HO1.out _ ?_) ?_; (focus (repeat (first | exact HRB.out | refine bdrawD ?_ | refine bgrowD ?_ _))); rintro e w3 ⟨p1, a1, l1, c1, rfl, hA, ⟨n0, n1⟩, ⟨nz0, nz1⟩, hc3, hf3, hs3⟩; have ne30 := World.new_ne w3 ⟨s, 0, none⟩ n0; have ne31 := World.new_ne w3 ⟨g, 4, none⟩ n1; (try have k30 := hs3 (W.heap.size) (by first | omega | (simp; done) | (simp; omega))); (try have m300 := hc3 (W.heap.size) 0 (by first | omega | (simp; done) | (simp; omega))); (try have f300 := hf3 (W.heap.size) 0 (by first | omega | (simp; done) | (simp; omega))); (try have m301 := hc3 (W.heap.size) 1 (by first | omega | (simp; done) | (simp; omega))); (try have f301 := hf3 (W.heap.size) 1 (by first | omega | (simp; done) | (simp; omega))); clear hc3 hf3 hs3)
    | (go_at_call 27; with_reducible refine Calls.mono (HO2.out _ p1 a1 l1 c1 ?_ ?_) ?_; (focus (repeat (first | exact hA.out.1 | refine WAt.drew ?_ | refine WAt.grow ?_ _))); (focus (repeat (first | exact hA.out.2 | refine bdrawD ?_ | refine bgrowD ?_ _))); rintro e w6 ⟨p2, a2, l2, c2, rfl, hB, ⟨o0, o1⟩, ⟨oz0, oz1⟩, hc6, hf6, hs6⟩; have ne60 := World.new_ne w6 ⟨s, 0, none⟩ o0; have ne61 := World.new_ne w6 ⟨g, 4, none⟩ o1; (try have k60 := hs6 (W.heap.size) (by first | omega | (simp; done) | (simp; omega))); (try have m600 := hc6 (W.heap.size) 0 (by first | omega | (simp; done) | (simp; omega))); (try have f600 := hf6 (W.heap.size) 0 (by first | omega | (simp; done) | (simp; omega))); (try have m601 := hc6 (W.heap.size) 1 (by first | omega | (simp; done) | (simp; omega))); (try have f601 := hf6 (W.heap.size) 1 (by first | omega | (simp; done) | (simp; omega))); (try have k61 := hs6 (w3.heap.size) (by first | omega | (simp; done) | (simp; omega))); (try have m610 := hc6 (w3.heap.size) 0 (by first | omega | (simp; done) | (simp; omega))); (try have f610 := hf6 (w3.heap.size) 0 (by first | omega | (simp; done) | (simp; omega))); (try have m611 := hc6 (w3.heap.size) 1 (by first | omega | (simp; done) | (simp; omega))); (try have f611 := hf6 (w3.heap.size) 1 (by first | omega | (simp; done) | (simp; omega))); clear hc6 hf6 hs6)
    | (go_at_call 26; with_reducible refine Calls.mono (HMu.out _ p1 a1 l1 c1 p2 a2 l2 c2 ?_ ?_ ?_) ?_; (focus (repeat (first | exact hB.out.1 | refine WAt.drew ?_ | refine WAt.grow ?_ _))); (focus (repeat (first | exact hB.out.2.1 | refine WAt.drew ?_ | refine WAt.grow ?_ _))); (focus (repeat (first | exact hB.out.2.2 | refine bdrawD ?_ | refine bgrowD ?_ _))); rintro e w9 ⟨mp, ma, ml, mc, rfl, hM, ⟨r0, r1⟩, ⟨rz0, rz1⟩, hc9, hf9, hs9⟩; have ne90 := World.new_ne w9 ⟨s, 0, none⟩ r0; have ne91 := World.new_ne w9 ⟨g, 4, none⟩ r1; (try have k90 := hs9 (W.heap.size) (by first | omega | (simp; done) | (simp; omega))); (try have m900 := hc9 (W.heap.size) 0 (by first | omega | (simp; done) | (simp; omega))); (try have f900 := hf9 (W.heap.size) 0 (by first | omega | (simp; done) | (simp; omega))); (try have m901 := hc9 (W.heap.size) 1 (by first | omega | (simp; done) | (simp; omega))); (try have f901 := hf9 (W.heap.size) 1 (by first | omega | (simp; done) | (simp; omega))); (try have k91 := hs9 (w3.heap.size) (by first | omega | (simp; done) | (simp; omega))); (try have m910 := hc9 (w3.heap.size) 0 (by first | omega | (simp; done) | (simp; omega))); (try have f910 := hf9 (w3.heap.size) 0 (by first | omega | (simp; done) | (simp; omega))); (try have m911 := hc9 (w3.heap.size) 1 (by first | omega | (simp; done) | (simp; omega))); (try have f911 := hf9 (w3.heap.size) 1 (by first | omega | (simp; done) | (simp; omega))); (try have k92 := hs9 (w6.heap.size) (by first | omega | (simp; done) | (simp; omega))); (try have m920 := hc9 (w6.heap.size) 0 (by first | omega | (simp; done) | (simp; omega))); (try have f920 := hf9 (w6.heap.size) 0 (by first | omega | (simp; done) | (simp; omega))); (try have m921 := hc9 (w6.heap.size) 1 (by first | omega | (simp; done) | (simp; omega))); (try have f921 := hf9 (w6.heap.size) 1 (by first | omega | (simp; done) | (simp; omega))); clear hc9 hf9 hs9))
  all_goals
    have hz9 := hM.out.2.size
    have hz6 := hB.out.2.2.size
    have hz3 := hA.out.2.size
    clear HO1 HO2 HMu HRB
    obtain ⟨⟨ms, hMs, hMW⟩, hbM⟩ := hM.out
    go_wp2_with fail
    first
      | exact HN.out _ _ _ _ _ _ _ _ _ _ _ _ _ _ (fac_alloc hMs hMW.2.1 hMW.2.2) (bgrowD hbM _)
      | (refine HN.out _ _ _ _ _ _ _ _ _ _ _ _ _ _ (fac_put (q := false) (sa := none) (sn := 0) (sc := 0) ?_ ?_ ?_ ?_ hMs hMW.2.1 hMW.2.2) ((hbM.setCell ?_ _).setCell ?_ _)
         · go_simp
         · go_simp
         · go_simp
         · go_simp
         · first | (simp; done) | (simp; omega)
         · first | (simp; done) | (simp; omega))

set_option maxRecDepth 100000 in
set_option maxHeartbeats 12800000 in
theorem wt_p6 {x0 x1 x4 x5 x6 x7 x8 x9 x10 x11 x12 x13 x14 x15 x16 x17 x18 x19 x20 x21 x22 x23 x24 x25 x26 x27 x28 x29 x30 x31 x32 x33 x34 x35 x36 x37 x38 x39 x40 x41 x42 x43 x44 x45 x46 x47 x48 x49 x50 x51 x52 x53 x54 x55 x56 x57 x58 x59 x60 x61 x62 x63 : Value} {Q : Exit → Act → World → Prop} {W : World} {g s : Nat} {c : Cfg} {G H : Int} (hv : CVar W g c) (hs : SVar W s G H) (hok : CfgOk c) (hsm : SumOk G H)
    (hN : ∀ (s8 : Nat) (wx : World) (y11 y38 y39 y40 y41 y42 y43 y44 y45 y46 y47 y48 y49 y50 : Value), Fac wx s8 ((H + c.L) * c.E) → Below W.heap.size W wx → Q .normal ⟨#[x0, x1, .pointer (some ⟨g, 0, none⟩), .pointer (some ⟨s, 0, none⟩), x4, x5, x6, x7, x8, x9, .pointer (some ⟨s8, 0, none⟩), y11, x12, x13, x14, x15, x16, x17, x18, x19, x20, x21, x22, x23, x24, x25, x26, x27, x28, x29, x30, x31, x32, x33, x34, x35, x36, x37, y38, y39, y40, y41, y42, y43, y44, y45, y46, y47, y48, y49, y50, x51, x52, x53, x54, x55, x56, x57, x58, x59, x60, x61, x62, x63], []⟩ wx) :
    Code.wp Try.prog ((Try.f14.body.bind (pcAt 6)).getD .skip) Q ⟨#[x0, x1, .pointer (some ⟨g, 0, none⟩), .pointer (some ⟨s, 0, none⟩), x4, x5, x6, x7, x8, x9, x10, x11, x12, x13, x14, x15, x16, x17, x18, x19, x20, x21, x22, x23, x24, x25, x26, x27, x28, x29, x30, x31, x32, x33, x34, x35, x36, x37, x38, x39, x40, x41, x42, x43, x44, x45, x46, x47, x48, x49, x50, x51, x52, x53, x54, x55, x56, x57, x58, x59, x60, x61, x62, x63], []⟩ W := by
  conv => arg 2; whnf
  have HN : Hid (∀ (s8 : Nat) (wx : World) (y11 y38 y39 y40 y41 y42 y43 y44 y45 y46 y47 y48 y49 y50 : Value), Fac wx s8 ((H + c.L) * c.E) → Below W.heap.size W wx → Q .normal ⟨#[x0, x1, .pointer (some ⟨g, 0, none⟩), .pointer (some ⟨s, 0, none⟩), x4, x5, x6, x7, x8, x9, .pointer (some ⟨s8, 0, none⟩), y11, x12, x13, x14, x15, x16, x17, x18, x19, x20, x21, x22, x23, x24, x25, x26, x27, x28, x29, x30, x31, x32, x33, x34, x35, x36, x37, y38, y39, y40, y41, y42, y43, y44, y45, y46, y47, y48, y49, y50, x51, x52, x53, x54, x55, x56, x57, x58, x59, x60, x61, x62, x63], []⟩ wx) := hN
  clear hN
  have x0 := hs.cell.2
  have x1 := hv.cell.2.2.1
  have x2 := hv.cell.2.2.2.2.2.1
  have z0 := hv.lt
  have z1 := hs.lt
  have hsz : -2305843009213693952 ≤ (H + c.L) * c.E ∧ (H + c.L) * c.E ≤ 2305843009213693952 := by have := den_pos16 hok hsm; omega
  have q1 := hok.l
  have q2 := hok.e
  have q3 := hsm.2.2
  obtain ⟨A1, hA1⟩ : ∃ A1, A1 = (H + c.L) := ⟨_, rfl⟩
  obtain ⟨A2, hA2⟩ : ∃ A2, A2 = c.E := ⟨_, rfl⟩
  have b1 : -9223372036854775808 ≤ A1 ∧ A1 < 9223372036854775808 := by omega
  have b2 : -9223372036854775808 ≤ A2 ∧ A2 < 9223372036854775808 := by omega
  have hX : ((A1 * A2).natAbs : Int) < 18446744073709551616 ^ 64 := by rw [hA1, hA2]; exact big16 hsz
  rw [← hA1, ← hA2] at HN
  rw [← hA2] at x2
  have HRB : Hid (Below W.heap.size W W) := Below.refl _ _
  have HO1 : Hid (∀ wx : World, Below W.heap.size W wx → Calls Try.prog 27 #[.int .i64 A1] wx fun e w' => ∃ pp aa ll kk, e = .returned (.agg #[.bool pp, .slice aa ll kk]) ∧ Hid (WAt w' pp aa ll kk A1 ∧ Below W.heap.size W w') ∧ (w'.cell? ⟨s, 1, none⟩ = some (.int .i64 H) ∧ w'.cell? ⟨g, 2, none⟩ = some (.int .i64 c.L) ∧ w'.cell? ⟨g, 5, none⟩ = some (.int .i64 A2)) ∧ (g < w'.heap.size ∧ s < w'.heap.size) ∧ (∀ b o, b < wx.heap.size → w'.cell? ⟨b, o, none⟩ = wx.cell? ⟨b, o, none⟩) ∧ (∀ b o, b < wx.heap.size → w'.frozen? ⟨b, o, none⟩ = wx.frozen? ⟨b, o, none⟩) ∧ (∀ b, b < wx.heap.size → b < w'.heap.size)) := by
    intro wx hbx
    refine (refIOf_any A1 wx b1).mono ?_
    rintro e w' ⟨a', n', c', rfl, hn, hb⟩
    have hb' := bthen hbx hb
    exact ⟨_, _, _, _, rfl, ⟨⟨_, hn, IsW.of b1⟩, hb'⟩, ⟨bkeep hb' x0 rfl, bkeep hb' x1 rfl, bkeep hb' x2 rfl⟩, ⟨Nat.lt_of_lt_of_le z0 hb'.size, Nat.lt_of_lt_of_le z1 hb'.size⟩, bfactsD hb⟩
  have HO2 : Hid (∀ (wx : World) p1 a1 l1 c1, WAt wx p1 a1 l1 c1 A1 → Below W.heap.size W wx → Calls Try.prog 27 #[.int .i64 A2] wx fun e w' => ∃ pp aa ll kk, e = .returned (.agg #[.bool pp, .slice aa ll kk]) ∧ Hid (WAt w' p1 a1 l1 c1 A1 ∧ WAt w' pp aa ll kk A2 ∧ Below W.heap.size W w') ∧ (w'.cell? ⟨s, 1, none⟩ = some (.int .i64 H) ∧ w'.cell? ⟨g, 2, none⟩ = some (.int .i64 c.L) ∧ w'.cell? ⟨g, 5, none⟩ = some (.int .i64 A2)) ∧ (g < w'.heap.size ∧ s < w'.heap.size) ∧ (∀ b o, b < wx.heap.size → w'.cell? ⟨b, o, none⟩ = wx.cell? ⟨b, o, none⟩) ∧ (∀ b o, b < wx.heap.size → w'.frozen? ⟨b, o, none⟩ = wx.frozen? ⟨b, o, none⟩) ∧ (∀ b, b < wx.heap.size → b < w'.heap.size)) := by
    intro wx p1 a1 l1 c1 hw hbx
    refine (refIOf_any A2 wx b2).mono ?_
    rintro e w' ⟨a', n', c', rfl, hn, hb⟩
    have hb' := bthen hbx hb
    exact ⟨_, _, _, _, rfl, ⟨hw.below hb, ⟨_, hn, IsW.of b2⟩, hb'⟩, ⟨bkeep hb' x0 rfl, bkeep hb' x1 rfl, bkeep hb' x2 rfl⟩, ⟨Nat.lt_of_lt_of_le z0 hb'.size, Nat.lt_of_lt_of_le z1 hb'.size⟩, bfactsD hb⟩
  have HMu : Hid (∀ (wx : World) p1 a1 l1 c1 p2 a2 l2 c2, WAt wx p1 a1 l1 c1 A1 → WAt wx p2 a2 l2 c2 A2 → Below W.heap.size W wx → Calls Try.prog 26 #[.agg #[.bool p1, .slice a1 l1 c1], .agg #[.bool p2, .slice a2 l2 c2]] wx fun e w' => ∃ pp aa ll kk, e = .returned (.tuple #[.agg #[.bool pp, .slice aa ll kk], .int .i64 0]) ∧ Hid (WAt w' pp aa ll kk (A1 * A2) ∧ Below W.heap.size W w') ∧ (w'.cell? ⟨s, 1, none⟩ = some (.int .i64 H) ∧ w'.cell? ⟨g, 2, none⟩ = some (.int .i64 c.L) ∧ w'.cell? ⟨g, 5, none⟩ = some (.int .i64 A2)) ∧ (g < w'.heap.size ∧ s < w'.heap.size) ∧ (∀ b o, b < wx.heap.size → w'.cell? ⟨b, o, none⟩ = wx.cell? ⟨b, o, none⟩) ∧ (∀ b o, b < wx.heap.size → w'.frozen? ⟨b, o, none⟩ = wx.frozen? ⟨b, o, none⟩) ∧ (∀ b, b < wx.heap.size → b < w'.heap.size)) := by
    rintro wx p1 a1 l1 c1 p2 a2 l2 c2 ⟨ys, hy, hyW⟩ ⟨vs, hv, hvW⟩ hbx
    refine (refIMul_any p1 p2 _ _ _ _ _ _ _ _ wx hy hv).mono ?_
    rintro e w' ⟨q, a', n', c', ls, err, rfl, hn, hRes, hb⟩
    have hb' := bthen hbx hb
    have := hRes.got hyW.2.1 hvW.2.1
    rw [hyW.2.2, hvW.2.2] at this
    obtain ⟨h3, rfl⟩ := IsW.res this hX
    exact ⟨_, _, _, _, rfl, ⟨⟨_, hn, h3⟩, hb'⟩, ⟨bkeep hb' x0 rfl, bkeep hb' x1 rfl, bkeep hb' x2 rfl⟩, ⟨Nat.lt_of_lt_of_le z0 hb'.size, Nat.lt_of_lt_of_le z1 hb'.size⟩, bfactsD hb⟩
  have HA : Hid (A1 = (H + c.L) ∧ A2 = c.E) := ⟨hA1, hA2⟩
  have ne00 := World.new_ne W ⟨s, 1, none⟩ x0
  have ne01 := World.new_ne W ⟨g, 2, none⟩ x1
  have ne02 := World.new_ne W ⟨g, 5, none⟩ x2
  have e1 : (H + c.L) = A1 := hA1.symm
  have e2 : c.E = A2 := hA2.symm
  clear hX b1 b2 hA1 hA2 hsz hv hs hok hsm z0 z1
  have hwn : RowKit.wrap64 A1 = A1 := by unfold RowKit.wrap64; omega
  have hwm : IntKind.i64.wrap A1 = A1 := by rw [IntKind.wrap_i64]; omega
  clear q1 q2 q3 e2
  refine wp_pcOnly ?_
  go_wp2_with fail
  go_region_held3 (fun w' => (w'.cell? ⟨s, 1, none⟩ = some (.int .i64 H) ∧ w'.cell? ⟨g, 2, none⟩ = some (.int .i64 c.L) ∧ w'.cell? ⟨g, 5, none⟩ = some (.int .i64 A2))) (first | go_keep | exact ⟨r0, r1, r2⟩ | exact ⟨o0, o1, o2⟩ | exact ⟨n0, n1, n2⟩ | exact ⟨(put2_other (by omega) _ _).trans r0, (put2_other (by omega) _ _).trans r1, (put2_other (by omega) _ _).trans r2⟩ | exact ⟨(put2_other (by omega) _ _).trans o0, (put2_other (by omega) _ _).trans o1, (put2_other (by omega) _ _).trans o2⟩ | exact ⟨(put2_other (by omega) _ _).trans n0, (put2_other (by omega) _ _).trans n1, (put2_other (by omega) _ _).trans n2⟩)
    (first
    | (go_at_call 27; with_reducible refine Calls.mono (HO1.out _ ?_) ?_; (focus (repeat (first | exact HRB.out | refine bdrawD ?_ | refine bgrowD ?_ _))); rintro e w3 ⟨p1, a1, l1, c1, rfl, hA, ⟨n0, n1, n2⟩, ⟨nz0, nz1⟩, hc3, hf3, hs3⟩; have ne30 := World.new_ne w3 ⟨s, 1, none⟩ n0; have ne31 := World.new_ne w3 ⟨g, 2, none⟩ n1; have ne32 := World.new_ne w3 ⟨g, 5, none⟩ n2; (try have k30 := hs3 (W.heap.size) (by first | omega | (simp; done) | (simp; omega))); (try have m300 := hc3 (W.heap.size) 0 (by first | omega | (simp; done) | (simp; omega))); (try have f300 := hf3 (W.heap.size) 0 (by first | omega | (simp; done) | (simp; omega))); (try have m301 := hc3 (W.heap.size) 1 (by first | omega | (simp; done) | (simp; omega))); (try have f301 := hf3 (W.heap.size) 1 (by first | omega | (simp; done) | (simp; omega))); clear hc3 hf3 hs3)
    | (go_at_call 27; with_reducible refine Calls.mono (HO2.out _ p1 a1 l1 c1 ?_ ?_) ?_; (focus (repeat (first | exact hA.out.1 | refine WAt.drew ?_ | refine WAt.grow ?_ _))); (focus (repeat (first | exact hA.out.2 | refine bdrawD ?_ | refine bgrowD ?_ _))); rintro e w6 ⟨p2, a2, l2, c2, rfl, hB, ⟨o0, o1, o2⟩, ⟨oz0, oz1⟩, hc6, hf6, hs6⟩; have ne60 := World.new_ne w6 ⟨s, 1, none⟩ o0; have ne61 := World.new_ne w6 ⟨g, 2, none⟩ o1; have ne62 := World.new_ne w6 ⟨g, 5, none⟩ o2; (try have k60 := hs6 (W.heap.size) (by first | omega | (simp; done) | (simp; omega))); (try have m600 := hc6 (W.heap.size) 0 (by first | omega | (simp; done) | (simp; omega))); (try have f600 := hf6 (W.heap.size) 0 (by first | omega | (simp; done) | (simp; omega))); (try have m601 := hc6 (W.heap.size) 1 (by first | omega | (simp; done) | (simp; omega))); (try have f601 := hf6 (W.heap.size) 1 (by first | omega | (simp; done) | (simp; omega))); (try have k61 := hs6 (w3.heap.size) (by first | omega | (simp; done) | (simp; omega))); (try have m610 := hc6 (w3.heap.size) 0 (by first | omega | (simp; done) | (simp; omega))); (try have f610 := hf6 (w3.heap.size) 0 (by first | omega | (simp; done) | (simp; omega))); (try have m611 := hc6 (w3.heap.size) 1 (by first | omega | (simp; done) | (simp; omega))); (try have f611 := hf6 (w3.heap.size) 1 (by first | omega | (simp; done) | (simp; omega))); clear hc6 hf6 hs6)
    | (go_at_call 26; with_reducible refine Calls.mono (HMu.out _ p1 a1 l1 c1 p2 a2 l2 c2 ?_ ?_ ?_) ?_; (focus (repeat (first | exact hB.out.1 | refine WAt.drew ?_ | refine WAt.grow ?_ _))); (focus (repeat (first | exact hB.out.2.1 | refine WAt.drew ?_ | refine WAt.grow ?_ _))); (focus (repeat (first | exact hB.out.2.2 | refine bdrawD ?_ | refine bgrowD ?_ _))); rintro e w9 ⟨mp, ma, ml, mc, rfl, hM, ⟨r0, r1, r2⟩, ⟨rz0, rz1⟩, hc9, hf9, hs9⟩; have ne90 := World.new_ne w9 ⟨s, 1, none⟩ r0; have ne91 := World.new_ne w9 ⟨g, 2, none⟩ r1; have ne92 := World.new_ne w9 ⟨g, 5, none⟩ r2; (try have k90 := hs9 (W.heap.size) (by first | omega | (simp; done) | (simp; omega))); (try have m900 := hc9 (W.heap.size) 0 (by first | omega | (simp; done) | (simp; omega))); (try have f900 := hf9 (W.heap.size) 0 (by first | omega | (simp; done) | (simp; omega))); (try have m901 := hc9 (W.heap.size) 1 (by first | omega | (simp; done) | (simp; omega))); (try have f901 := hf9 (W.heap.size) 1 (by first | omega | (simp; done) | (simp; omega))); (try have k91 := hs9 (w3.heap.size) (by first | omega | (simp; done) | (simp; omega))); (try have m910 := hc9 (w3.heap.size) 0 (by first | omega | (simp; done) | (simp; omega))); (try have f910 := hf9 (w3.heap.size) 0 (by first | omega | (simp; done) | (simp; omega))); (try have m911 := hc9 (w3.heap.size) 1 (by first | omega | (simp; done) | (simp; omega))); (try have f911 := hf9 (w3.heap.size) 1 (by first | omega | (simp; done) | (simp; omega))); (try have k92 := hs9 (w6.heap.size) (by first | omega | (simp; done) | (simp; omega))); (try have m920 := hc9 (w6.heap.size) 0 (by first | omega | (simp; done) | (simp; omega))); (try have f920 := hf9 (w6.heap.size) 0 (by first | omega | (simp; done) | (simp; omega))); (try have m921 := hc9 (w6.heap.size) 1 (by first | omega | (simp; done) | (simp; omega))); (try have f921 := hf9 (w6.heap.size) 1 (by first | omega | (simp; done) | (simp; omega))); clear hc9 hf9 hs9))
  all_goals
    have hz9 := hM.out.2.size
    have hz6 := hB.out.2.2.size
    have hz3 := hA.out.2.size
    clear HO1 HO2 HMu HRB
    obtain ⟨⟨ms, hMs, hMW⟩, hbM⟩ := hM.out
    go_wp2_with fail
    first
      | exact HN.out _ _ _ _ _ _ _ _ _ _ _ _ _ _ _ _ (fac_alloc hMs hMW.2.1 hMW.2.2) (bgrowD hbM _)
      | (refine HN.out _ _ _ _ _ _ _ _ _ _ _ _ _ _ _ _ (fac_put (q := false) (sa := none) (sn := 0) (sc := 0) ?_ ?_ ?_ ?_ hMs hMW.2.1 hMW.2.2) ((hbM.setCell ?_ _).setCell ?_ _)
         · go_simp
         · go_simp
         · go_simp
         · go_simp
         · first | (simp; done) | (simp; omega)
         · first | (simp; done) | (simp; omega))

end Go.Proofs.Ytpeefhkadeoioaa

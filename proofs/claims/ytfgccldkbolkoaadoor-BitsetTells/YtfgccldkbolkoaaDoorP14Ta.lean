/-
  BitsetTells: its statements. Written by mk/p14laws.py.
-/
import Derived.Test.YtfgccldkbolkoaaDoorP14G
import Derived.Deep.RegionHeld3
namespace Go.Proofs.YtfgccldkbolkoaaDoor
open Go.RowKit

set_option maxRecDepth 100000 in
set_option maxHeartbeats 12800000 in
theorem bt_p0 {x1 x2 x3 x4 x5 x6 x7 x8 x9 x10 x11 x12 x13 x14 x15 x16 x17 x18 x19 x20 x21 x22 x23 x24 x25 x26 x27 x28 x29 x30 x31 x32 x33 x34 x35 x36 x37 x38 x39 x40 x41 x42 x43 x44 x45 x46 x47 : Value} {Q : Exit → Act → World → Prop} {W : World} {N : Int} {a : Option Addr} {l c : Nat} 
    (hN : Q .normal ⟨#[.agg #[.int .i64 N, .slice a l c], x1, .pointer (some ⟨W.heap.size, 0, none⟩), x3, .bool false, x5, x6, x7, x8, x9, x10, x11, x12, x13, x14, x15, x16, x17, x18, x19, x20, x21, x22, x23, x24, x25, x26, x27, x28, x29, x30, x31, x32, x33, x34, x35, x36, x37, x38, x39, x40, x41, x42, x43, x44, x45, x46, x47], []⟩ (W.alloc (.cells #[.int .i64 N, .slice a l c] 24))) :
    Code.wp Tryd.prog ((Tryd.f3.body.bind (pcAt 0)).getD .skip) Q ⟨#[.agg #[.int .i64 N, .slice a l c], x1, x2, x3, x4, x5, x6, x7, x8, x9, x10, x11, x12, x13, x14, x15, x16, x17, x18, x19, x20, x21, x22, x23, x24, x25, x26, x27, x28, x29, x30, x31, x32, x33, x34, x35, x36, x37, x38, x39, x40, x41, x42, x43, x44, x45, x46, x47], []⟩ W := by
  conv => arg 2; whnf
  have HN : Hid (Q .normal ⟨#[.agg #[.int .i64 N, .slice a l c], x1, .pointer (some ⟨W.heap.size, 0, none⟩), x3, .bool false, x5, x6, x7, x8, x9, x10, x11, x12, x13, x14, x15, x16, x17, x18, x19, x20, x21, x22, x23, x24, x25, x26, x27, x28, x29, x30, x31, x32, x33, x34, x35, x36, x37, x38, x39, x40, x41, x42, x43, x44, x45, x46, x47], []⟩ (W.alloc (.cells #[.int .i64 N, .slice a l c] 24))) := hN
  clear hN
  go_wp2_with fail
  exact HN.out   

set_option maxRecDepth 100000 in
set_option maxHeartbeats 12800000 in
theorem bt_p1 {x0 x1 x3 x4 x5 x6 x7 x8 x9 x10 x11 x12 x13 x14 x15 x16 x17 x18 x19 x20 x21 x22 x23 x24 x25 x26 x27 x28 x29 x30 x31 x32 x33 x34 x35 x36 x37 x38 x39 x40 x41 x42 x43 x44 x45 x46 x47 : Value} {Q : Exit → Act → World → Prop} {W : World} {A : Nat} {N : Int} {a : Option Addr} {l c : Nat} {ws : List Int} (ha : SetVar W A N a l c) (hx : Nums W a l c ws)
    (hN : ∀ (wx : World) (y4 y8 y9 y10 y11 : Value), Below W.heap.size W wx → Q .normal ⟨#[x0, x1, .pointer (some ⟨A, 0, none⟩), x3, y4, x5, x6, x7, y8, y9, y10, y11, x12, x13, x14, x15, x16, x17, x18, x19, x20, x21, x22, x23, x24, x25, x26, x27, x28, x29, x30, x31, x32, x33, x34, x35, x36, x37, x38, x39, x40, x41, x42, x43, x44, x45, x46, x47], []⟩ wx)
    (hR : ∀ (wx : World) (y8 y9 y10 y11 : Value), Below W.heap.size W wx → Q .ret ⟨#[x0, x1, .pointer (some ⟨A, 0, none⟩), x3, .bool true, x5, x6, x7, y8, y9, y10, y11, x12, x13, x14, x15, x16, x17, x18, x19, x20, x21, x22, x23, x24, x25, x26, x27, x28, x29, x30, x31, x32, x33, x34, x35, x36, x37, x38, x39, x40, x41, x42, x43, x44, x45, x46, x47], []⟩ wx) :
    Code.wp Tryd.prog ((Tryd.f3.body.bind (pcAt 1)).getD .skip) Q ⟨#[x0, x1, .pointer (some ⟨A, 0, none⟩), x3, x4, x5, x6, x7, x8, x9, x10, x11, x12, x13, x14, x15, x16, x17, x18, x19, x20, x21, x22, x23, x24, x25, x26, x27, x28, x29, x30, x31, x32, x33, x34, x35, x36, x37, x38, x39, x40, x41, x42, x43, x44, x45, x46, x47], []⟩ W := by
  conv => arg 2; whnf
  have HN : Hid (∀ (wx : World) (y4 y8 y9 y10 y11 : Value), Below W.heap.size W wx → Q .normal ⟨#[x0, x1, .pointer (some ⟨A, 0, none⟩), x3, y4, x5, x6, x7, y8, y9, y10, y11, x12, x13, x14, x15, x16, x17, x18, x19, x20, x21, x22, x23, x24, x25, x26, x27, x28, x29, x30, x31, x32, x33, x34, x35, x36, x37, x38, x39, x40, x41, x42, x43, x44, x45, x46, x47], []⟩ wx) := hN
  have HR : Hid (∀ (wx : World) (y8 y9 y10 y11 : Value), Below W.heap.size W wx → Q .ret ⟨#[x0, x1, .pointer (some ⟨A, 0, none⟩), x3, .bool true, x5, x6, x7, y8, y9, y10, y11, x12, x13, x14, x15, x16, x17, x18, x19, x20, x21, x22, x23, x24, x25, x26, x27, x28, x29, x30, x31, x32, x33, x34, x35, x36, x37, x38, x39, x40, x41, x42, x43, x44, x45, x46, x47], []⟩ wx) := hR
  clear hN hR
  obtain ⟨a0, a1⟩ := ha.cells
  have m1 := hx.hcap
  have m2 := hx.hmax
  unfold maxLen at m2
  have HC := (show Hid _ from few14_any W.heap.size 1 (fun _ => l) (W.alloc (.cells #[.int .i64 N, .slice a l c] 24)) (by decide) (fun j hj => by
    obtain rfl : j = 0 := by omega
    exact ⟨a, c, by simp, m1, m2⟩))
  have HB := (show Hid _ from balloc W (.cells #[.int .i64 N, .slice a l c] 24))
  clear ha hx m1 m2
  go_wp2_with fail
  refine Calls.mono HC.out ?_
  rintro e wx ⟨z, rfl, rfl⟩
  clear HC a0 a1
  dsimp only
  cases z with
  | true =>
    clear HR
    go_wp2_with fail
    exact HN.out _ _ _ _ _ _ HB.out
  | false =>
    clear HN
    go_wp2_with fail
    exact HR.out _ _ _ _ _ HB.out

set_option maxRecDepth 100000 in
set_option maxHeartbeats 12800000 in
theorem bt_p3 {x0 x1 x3 x4 x5 x6 x7 x8 x9 x10 x11 x12 x13 x14 x15 x16 x17 x18 x19 x20 x21 x22 x23 x24 x25 x26 x27 x28 x29 x30 x31 x32 x33 x34 x35 x36 x37 x38 x39 x40 x41 x42 x43 x44 x45 x46 x47 : Value} {Q : Exit → Act → World → Prop} {W : World} {A : Nat} {N : Int} {a : Option Addr} {l c : Nat} {ws : List Int} {T : World → Prop} (OK : LstOk14 T) (hT : T W) (hN : -9223372036854775808 ≤ N ∧ N < 9223372036854775808) (ha : SetVar W A N a l c) (hx : Nums W a l c ws)
    (hN : ∀ (ns : List Nat) (p : Option Addr) (n q : Nat) (wx : World) (y12 y13 : Value), n = ns.length → Lsts wx p n q (ints ns) → ResList N ws ns → Below W.heap.size W wx → Q .normal ⟨#[x0, x1, .pointer (some ⟨A, 0, none⟩), x3, x4, .slice p n q, x6, x7, x8, x9, x10, x11, y12, y13, x14, x15, x16, x17, x18, x19, x20, x21, x22, x23, x24, x25, x26, x27, x28, x29, x30, x31, x32, x33, x34, x35, x36, x37, x38, x39, x40, x41, x42, x43, x44, x45, x46, x47], []⟩ wx) :
    Code.wp Tryd.prog ((Tryd.f3.body.bind (pcAt 3)).getD .skip) Q ⟨#[x0, x1, .pointer (some ⟨A, 0, none⟩), x3, x4, x5, x6, x7, x8, x9, x10, x11, x12, x13, x14, x15, x16, x17, x18, x19, x20, x21, x22, x23, x24, x25, x26, x27, x28, x29, x30, x31, x32, x33, x34, x35, x36, x37, x38, x39, x40, x41, x42, x43, x44, x45, x46, x47], []⟩ W := by
  conv => arg 2; whnf
  have HN : Hid (∀ (ns : List Nat) (p : Option Addr) (n q : Nat) (wx : World) (y12 y13 : Value), n = ns.length → Lsts wx p n q (ints ns) → ResList N ws ns → Below W.heap.size W wx → Q .normal ⟨#[x0, x1, .pointer (some ⟨A, 0, none⟩), x3, x4, .slice p n q, x6, x7, x8, x9, x10, x11, y12, y13, x14, x15, x16, x17, x18, x19, x20, x21, x22, x23, x24, x25, x26, x27, x28, x29, x30, x31, x32, x33, x34, x35, x36, x37, x38, x39, x40, x41, x42, x43, x44, x45, x46, x47], []⟩ wx) := hN
  clear hN
  obtain ⟨a0, a1⟩ := ha.cells
  have HC := (show Hid _ from OK N a l c ws W hN hx hT)
  clear ha hx hN hT
  go_wp2_with fail
  refine Calls.mono HC.out ?_
  rintro e wx ⟨ns, p, q, rfl, h1, h2, h3⟩
  obtain ⟨n, hn⟩ : ∃ n, n = ns.length := ⟨_, rfl⟩
  rw [← hn] at h1
  rw [← hn]
  have HT : Hid (n = ns.length ∧ Lsts wx p n q (ints ns) ∧ ResList N ws ns ∧ Below W.heap.size W wx) := ⟨hn, h1, h2, h3⟩
  clear h1 h2 h3 HC a0 a1 hn
  dsimp only
  go_wp2_with fail
  exact HN.out ns p n q wx _ _ HT.out.1 HT.out.2.1 HT.out.2.2.1 HT.out.2.2.2

set_option maxRecDepth 100000 in
set_option maxHeartbeats 12800000 in
theorem bt_p4 {x0 x1 x3 x4 x6 x7 x8 x9 x10 x11 x12 x13 x14 x15 x16 x17 x18 x19 x20 x21 x22 x23 x24 x25 x26 x27 x28 x29 x30 x31 x32 x33 x34 x35 x36 x37 x38 x39 x40 x41 x42 x43 x44 x45 x46 x47 : Value} {Q : Exit → Act → World → Prop} {W : World} {A : Nat} {N : Int} {a : Option Addr} {l c : Nat} {ws : List Int} {p : Option Addr} {n q : Nat} {ns : List Nat} (hN : -9223372036854775808 ≤ N ∧ N < 9223372036854775808) (ha : SetVar W A N a l c) (hx : Nums W a l c ws) (hL : Lsts W p n q (ints ns)) (hr : ResList N ws ns)
    (hN : ∀ (wx : World) (y14 y15 y16 y17 : Value), Below W.heap.size W wx → Q .normal ⟨#[x0, x1, .pointer (some ⟨A, 0, none⟩), x3, x4, .slice p n q, .bool true, x7, x8, x9, x10, x11, x12, x13, y14, y15, y16, y17, x18, x19, x20, x21, x22, x23, x24, x25, x26, x27, x28, x29, x30, x31, x32, x33, x34, x35, x36, x37, x38, x39, x40, x41, x42, x43, x44, x45, x46, x47], []⟩ wx) :
    Code.wp Tryd.prog ((Tryd.f3.body.bind (pcAt 4)).getD .skip) Q ⟨#[x0, x1, .pointer (some ⟨A, 0, none⟩), x3, x4, .slice p n q, x6, x7, x8, x9, x10, x11, x12, x13, x14, x15, x16, x17, x18, x19, x20, x21, x22, x23, x24, x25, x26, x27, x28, x29, x30, x31, x32, x33, x34, x35, x36, x37, x38, x39, x40, x41, x42, x43, x44, x45, x46, x47], []⟩ W := by
  conv => arg 2; whnf
  have HN : Hid (∀ (wx : World) (y14 y15 y16 y17 : Value), Below W.heap.size W wx → Q .normal ⟨#[x0, x1, .pointer (some ⟨A, 0, none⟩), x3, x4, .slice p n q, .bool true, x7, x8, x9, x10, x11, x12, x13, y14, y15, y16, y17, x18, x19, x20, x21, x22, x23, x24, x25, x26, x27, x28, x29, x30, x31, x32, x33, x34, x35, x36, x37, x38, x39, x40, x41, x42, x43, x44, x45, x46, x47], []⟩ wx) := hN
  clear hN
  obtain ⟨a0, a1⟩ := ha.cells
  have HC := (show Hid _ from r14list_any N a l c ws W hN hx)
  have HL : Hid (Lsts W p n q (ints ns) ∧ ResList N ws ns) := ⟨hL, hr⟩
  clear ha hx hN hL hr
  go_wp2_with fail
  refine Calls.mono HC.out ?_
  rintro e w1 ⟨ns', p', q', rfl, h1, h2, h3⟩
  obtain rfl := h2.unique HL.out.2
  have HS : Hid (Calls Tryd.prog 7 #[.slice p n q, .slice p' ns'.length q'] w1 fun e w' => e = .returned (.bool true) ∧ Below w1.heap.size w1 w') := (r12si_any p p' n q ns'.length q' (ints ns') (ints ns') w1 (HL.out.1.below h3) h1).mono fun e w' k => ⟨by rw [k.1]; simp, k.2⟩
  have HB : Hid (Below W.heap.size W w1) := h3
  clear HC h1 h2 h3 HL a0 a1
  dsimp only
  go_wp2_with fail
  refine Calls.mono HS.out ?_
  rintro e w2 ⟨rfl, hb⟩
  have HT : Hid (Below W.heap.size W w2) := bthen HB.out hb
  clear HS hb HB
  dsimp only
  go_wp2_with fail
  exact HN.out w2 _ _ _ _ HT.out

set_option maxRecDepth 100000 in
set_option maxHeartbeats 12800000 in
theorem bt_p5 {x0 x1 x2 x3 x4 x5 x6 x7 x8 x9 x10 x11 x12 x13 x14 x15 x16 x17 x18 x19 x20 x21 x22 x23 x24 x25 x26 x27 x28 x29 x30 x31 x32 x33 x34 x35 x36 x37 x38 x39 x40 x41 x42 x43 x44 x45 x46 x47 : Value} {Q : Exit → Act → World → Prop} {W : World} (OK : HasOk14)
    (hN : ∀ (wx : World) (y18 y19 y20 : Value), Below W.heap.size W wx → Q .normal ⟨#[x0, x1, x2, x3, x4, x5, x6, .bool true, x8, x9, x10, x11, x12, x13, x14, x15, x16, x17, y18, y19, y20, x21, x22, x23, x24, x25, x26, x27, x28, x29, x30, x31, x32, x33, x34, x35, x36, x37, x38, x39, x40, x41, x42, x43, x44, x45, x46, x47], []⟩ wx) :
    Code.wp Tryd.prog ((Tryd.f3.body.bind (pcAt 5)).getD .skip) Q ⟨#[x0, x1, x2, x3, x4, x5, x6, x7, x8, x9, x10, x11, x12, x13, x14, x15, x16, x17, x18, x19, x20, x21, x22, x23, x24, x25, x26, x27, x28, x29, x30, x31, x32, x33, x34, x35, x36, x37, x38, x39, x40, x41, x42, x43, x44, x45, x46, x47], []⟩ W := by
  conv => arg 2; whnf
  have HN : Hid (∀ (wx : World) (y18 y19 y20 : Value), Below W.heap.size W wx → Q .normal ⟨#[x0, x1, x2, x3, x4, x5, x6, .bool true, x8, x9, x10, x11, x12, x13, x14, x15, x16, x17, y18, y19, y20, x21, x22, x23, x24, x25, x26, x27, x28, x29, x30, x31, x32, x33, x34, x35, x36, x37, x38, x39, x40, x41, x42, x43, x44, x45, x46, x47], []⟩ wx) := hN
  clear hN
  have n1 : Nums (W.alloc (.cells #[.int .u64 1] 30)) (some ⟨W.heap.size, 0, none⟩) 1 1 [1] := ⟨rfl, Nat.le_refl _, by decide, fun _ => ⟨_, 0, rfl, fun i hi => by
    obtain rfl : i = 0 := by omega
    simp⟩, fun x hx => by simp at hx; omega⟩
  have HB := (show Hid _ from balloc W (.cells #[.int .u64 1] 30))
  have HC : Hid (Calls Tryd.prog 9 #[.agg #[.int .i64 1, .slice (some ⟨W.heap.size, 0, none⟩) 1 1], .int .i64 0] (W.alloc (.cells #[.int .u64 1] 30)) fun e w' => e = .returned (.bool true) ∧ Below W.heap.size W w') := (OK 1 (some ⟨W.heap.size, 0, none⟩) 1 1 [1] 0 _ (by decide) (by decide) n1).mono fun e w' h => by
    obtain ⟨b, h1, h2, h3⟩ := h
    have hb : b = true := h2.2 ⟨right1 1 (.inr rfl), by decide, by decide, by decide⟩
    exact ⟨by rw [h1, hb], bthen HB.out h3⟩
  clear n1
  go_wp2_with fail
  refine Calls.mono HC.out ?_
  rintro e wx ⟨rfl, h1⟩
  have HT : Hid (Below W.heap.size W wx) := h1
  clear h1 HC HB
  dsimp only
  go_wp2_with fail
  exact HN.out wx _ _ _ HT.out

set_option maxRecDepth 100000 in
set_option maxHeartbeats 12800000 in
theorem bt_p6 {x0 x3 x4 x5 x8 x9 x10 x11 x12 x13 x14 x15 x16 x17 x18 x19 x20 x21 x22 x23 x24 x25 x26 x27 x28 x29 x30 x31 x32 x33 x34 x35 x36 x37 x38 x39 x40 x41 x42 x43 x44 x45 x46 x47 : Value} {Q : Exit → Act → World → Prop} {W : World} {A : Nat} {N : Int} {a : Option Addr} {l c : Nat} {ws : List Int} {i : Int} {B H : Bool} {ns : List Nat} {n : Nat} (OR : RgtOk14) (OH : HasOk14) (OC : CntOk14) (hN : -9223372036854775808 ≤ N ∧ N < 9223372036854775808) (hi : -9223372036854775808 ≤ i ∧ i < 9223372036854775808) (ha : SetVar W A N a l c) (hx : Nums W a l c ws) (hB : B = true ↔ RightS N ws) (hH : ResHas N ws i H) (hC : ResList N ws ns) (hn : n = ns.length)
    (hN : ∀ (wx : World) (y21 y22 y23 y24 y25 y26 y27 y28 y29 y30 y31 y32 y33 y34 y35 y36 y37 y38 y39 y40 y41 y42 y43 y44 y45 y46 y47 : Value), Below W.heap.size W wx → Q .normal ⟨#[x0, .int .i64 i, .pointer (some ⟨A, 0, none⟩), x3, .bool true, x5, .bool true, .bool true, x8, x9, x10, x11, x12, x13, x14, x15, x16, x17, x18, x19, x20, y21, y22, y23, y24, y25, y26, y27, y28, y29, y30, y31, y32, y33, y34, y35, y36, y37, y38, y39, y40, y41, y42, y43, y44, y45, y46, y47], []⟩ wx) :
    Code.wp Tryd.prog ((Tryd.f3.body.bind (pcAt 6)).getD .skip) Q ⟨#[x0, .int .i64 i, .pointer (some ⟨A, 0, none⟩), x3, x4, x5, .bool true, .bool true, x8, x9, x10, x11, x12, x13, x14, x15, x16, x17, x18, x19, x20, x21, x22, x23, x24, x25, x26, x27, x28, x29, x30, x31, x32, x33, x34, x35, x36, x37, x38, x39, x40, x41, x42, x43, x44, x45, x46, x47], []⟩ W := by
  conv => arg 2; whnf
  have HN : Hid (∀ (wx : World) (y21 y22 y23 y24 y25 y26 y27 y28 y29 y30 y31 y32 y33 y34 y35 y36 y37 y38 y39 y40 y41 y42 y43 y44 y45 y46 y47 : Value), Below W.heap.size W wx → Q .normal ⟨#[x0, .int .i64 i, .pointer (some ⟨A, 0, none⟩), x3, .bool true, x5, .bool true, .bool true, x8, x9, x10, x11, x12, x13, x14, x15, x16, x17, x18, x19, x20, y21, y22, y23, y24, y25, y26, y27, y28, y29, y30, y31, y32, y33, y34, y35, y36, y37, y38, y39, y40, y41, y42, y43, y44, y45, y46, y47], []⟩ wx) := hN
  clear hN
  have C1 : Hid (∀ wx : World, Below W.heap.size W wx → Calls Tryd.prog 10 #[.agg #[.int .i64 N, .slice a l c]] wx fun e w' => e = .returned (.bool B) ∧ (w'.cell? ⟨A, 0, none⟩ = some (.int .i64 N) ∧ w'.cell? ⟨A, 1, none⟩ = some (.slice a l c)) ∧ Hid (Below W.heap.size W w')) := fun wx hb => (OR N a l c ws wx hN (hx.below hb)).mono fun e w' q => by
    obtain ⟨z, q1, q2, q3⟩ := q
    have q4 := bthen hb q3
    have q5 : z = B := Bool.eq_iff_iff.2 (q2.trans hB.symm)
    exact ⟨by rw [q1, q5], (ha.below q4).cells, q4⟩
  have C2 : Hid (∀ wx : World, Below W.heap.size W wx → Calls Tryd.prog 11 #[.agg #[.int .i64 N, .slice a l c]] wx fun e w' => e = .returned (.bool B) ∧ (w'.cell? ⟨A, 0, none⟩ = some (.int .i64 N) ∧ w'.cell? ⟨A, 1, none⟩ = some (.slice a l c)) ∧ Hid (Below W.heap.size W w')) := fun wx hb => (r14right_any N a l c ws wx hN (hx.below hb)).mono fun e w' q => by
    obtain ⟨z, q1, q2, q3⟩ := q
    have q4 := bthen hb q3
    have q5 : z = B := Bool.eq_iff_iff.2 (q2.trans hB.symm)
    exact ⟨by rw [q1, q5], (ha.below q4).cells, q4⟩
  have C3 : Hid (∀ wx : World, Below W.heap.size W wx → Calls Tryd.prog 9 #[.agg #[.int .i64 N, .slice a l c], .int .i64 i] wx fun e w' => e = .returned (.bool H) ∧ (w'.cell? ⟨A, 0, none⟩ = some (.int .i64 N) ∧ w'.cell? ⟨A, 1, none⟩ = some (.slice a l c)) ∧ Hid (Below W.heap.size W w')) := fun wx hb => (OH N a l c ws i wx hN hi (hx.below hb)).mono fun e w' q => by
    obtain ⟨z, q1, q2, q3⟩ := q
    have q4 := bthen hb q3
    have q5 : z = H := q2.unique hH
    exact ⟨by rw [q1, q5], (ha.below q4).cells, q4⟩
  have C4 : Hid (∀ wx : World, Below W.heap.size W wx → Calls Tryd.prog 12 #[.agg #[.int .i64 N, .slice a l c], .int .i64 i] wx fun e w' => e = .returned (.bool H) ∧ (w'.cell? ⟨A, 0, none⟩ = some (.int .i64 N) ∧ w'.cell? ⟨A, 1, none⟩ = some (.slice a l c)) ∧ Hid (Below W.heap.size W w')) := fun wx hb => (r14has_any N a l c ws i wx hN (hx.below hb)).mono fun e w' q => by
    obtain ⟨z, q1, q2, q3⟩ := q
    have q4 := bthen hb q3
    have q5 : z = H := q2.unique hH
    exact ⟨by rw [q1, q5], (ha.below q4).cells, q4⟩
  have C5 : Hid (∀ wx : World, Below W.heap.size W wx → Calls Tryd.prog 13 #[.agg #[.int .i64 N, .slice a l c]] wx fun e w' => e = .returned (.int .i64 (n : Int)) ∧ (w'.cell? ⟨A, 0, none⟩ = some (.int .i64 N) ∧ w'.cell? ⟨A, 1, none⟩ = some (.slice a l c)) ∧ Hid (Below W.heap.size W w')) := fun wx hb => (OC N a l c ws wx hN (hx.below hb)).mono fun e w' q => by
    obtain ⟨ns', q1, q2, q3⟩ := q
    have q4 := bthen hb q3
    have q5 : (ns'.length : Int) = (n : Int) := by rw [q2.unique hC, hn]
    exact ⟨by rw [q1, q5], (ha.below q4).cells, q4⟩
  have C6 : Hid (∀ wx : World, Below W.heap.size W wx → Calls Tryd.prog 14 #[.agg #[.int .i64 N, .slice a l c]] wx fun e w' => e = .returned (.int .i64 (n : Int)) ∧ (w'.cell? ⟨A, 0, none⟩ = some (.int .i64 N) ∧ w'.cell? ⟨A, 1, none⟩ = some (.slice a l c)) ∧ Hid (Below W.heap.size W w')) := fun wx hb => (r14count_any N a l c ws wx hN (hx.below hb)).mono fun e w' q => by
    obtain ⟨ns', q1, q2, q3⟩ := q
    have q4 := bthen hb q3
    have q5 : (ns'.length : Int) = (n : Int) := by rw [q2.unique hC, hn]
    exact ⟨by rw [q1, q5], (ha.below q4).cells, q4⟩
  obtain ⟨a0, a1⟩ := ha.cells
  have k1 : (B == B) = true := by simp
  have k2 : (H == H) = true := by simp
  have k3 : ((n : Int) == (n : Int)) = true := by simp
  clear ha hx hN hi hB hH hC hn OR OH OC
  refine wp_pcOnly ?_
  go_wp2_with fail
  go_region_held3 (fun w' => (w'.cell? ⟨A, 0, none⟩ = some (.int .i64 N) ∧ w'.cell? ⟨A, 1, none⟩ = some (.slice a l c))) (first | go_keep | with_reducible exact hS1 | with_reducible exact hS2 | with_reducible exact hS3 | with_reducible exact hS4 | with_reducible exact hS5 | with_reducible exact hS6)
    (first
    | (go_at_call 10; with_reducible refine Calls.mono (C1.out _ ?_) ?_; (focus (repeat (first | exact Below.refl _ _ | refine bdr12 ?_))); rintro e w1 ⟨rfl, hS1, hB1⟩)
    | (go_at_call 11; with_reducible refine Calls.mono (C2.out _ hB1.out) ?_; rintro e w2 ⟨rfl, hS2, hB2⟩)
    | (go_at_call 9; with_reducible refine Calls.mono (C3.out _ hB2.out) ?_; rintro e w3 ⟨rfl, hS3, hB3⟩)
    | (go_at_call 12; with_reducible refine Calls.mono (C4.out _ hB3.out) ?_; rintro e w4 ⟨rfl, hS4, hB4⟩)
    | (go_at_call 13; with_reducible refine Calls.mono (C5.out _ hB4.out) ?_; rintro e w5 ⟨rfl, hS5, hB5⟩)
    | (go_at_call 14; with_reducible refine Calls.mono (C6.out _ hB5.out) ?_; rintro e w6 ⟨rfl, hS6, hB6⟩))
  all_goals
    exact HN.out w6 _ _ _ _ _ _ _ _ _ _ _ _ _ _ _ _ _ _ _ _ _ _ _ _ _ _ _ hB6.out

end Go.Proofs.YtfgccldkbolkoaaDoor

/-
  Stage 15's laws: what Cuts says of sets.
  DatasetCuts: its statements. Written by mk/p15c.py.
  DatasetCuts: its statements. Written by mk/p15c.py.
-/
import Derived.Test.YtaiikhbfnfcalabB15O
import Derived.Test.YtaiikhbfnfcalabR14F
import Derived.Test.YtaiikhbfnfcalabB14A
import Derived.Test.YtaiikhbfnfcalabP14G
import Derived.Deep.RegionHeld3
namespace Go.Proofs.Ytaiikhbfnfcalab
open Go.RowKit

theorem numsOfS_none {n : Nat} {f : Nat → Bool} (h : ∀ i, i < n → f i = false) : numsOfS n f = [] := by
  have := numsOfS_skip (f := f) (a := 0) (b := n) (Nat.zero_le _) (fun i _ hi => h i hi)
  rw [this]
  rfl
theorem numsOfS_all {f : Nat → Bool} : ∀ {n : Nat}, (∀ i, i < n → f i = true) → (numsOfS n f).length = n
  | 0, _ => rfl
  | n + 1, h => by
    rw [numsOfS_next, h n (Nat.lt_succ_self n), if_pos rfl, List.length_append, numsOfS_all (fun i hi => h i (Nat.lt_succ_of_lt hi))]
    rfl
/-- Of nested cuts the first one's set without the second's is empty. -/
theorem cuts_none {t : Tab} {col lo hi : Int} (hlh : lo ≤ hi) {n : Nat} (hn : n ≤ 65536) {ws vs : List Int} (h1 : IsSet n (leftF t col lo) ws) (h2 : IsSet n (leftF t col hi) vs) {N : Int} {us : List Int} {err : Int}
    (hj : ResJoin (fun x y => x && !y) (n : Int) ws (n : Int) vs N us err) : N = (n : Int) ∧ err = 0 ∧ ∀ ns, ResList (n : Int) us ns → ns.length = 0 := by
  rcases hj with ⟨h0, -⟩ | ⟨-, rfl, hs, rfl⟩
  · exact absurd ⟨h1.right hn, h2.right hn, rfl⟩ h0
  · refine ⟨rfl, rfl, fun ns hl => ?_⟩
    rw [Int.toNat_natCast] at hs
    rcases hl with ⟨-, rfl⟩ | ⟨-, rfl⟩
    · rw [Int.toNat_natCast, numsOfS_none (fun i hi => ?_)]
      · rfl
      · rw [hs.at hi, h1.at hi, h2.at hi]
        unfold leftF
        by_cases c : (t.cols.getD col.toNat []).getD i 0 ≤ lo
        · rw [decide_eq_true c, decide_eq_true (Int.le_trans c hlh)]
          rfl
        · rw [decide_eq_false c]
          rfl
    · rfl
/-- To the left of the last cut all lie. -/
theorem cuts_all {t : Tab} {col b : Int} (hT : TabOk t) (h0 : 0 ≤ col) (hc : col < (t.cols.length : Int)) (hb : b = t.bins.getD col.toNat 0) {ws : List Int} (h : IsSet t.ids.length (leftF t col (b - 1)) ws) {ns : List Nat} (hl : ResList (t.ids.length : Int) ws ns) : ns.length = t.ids.length := by
  have hn := hT.ids.few
  rcases hl with ⟨-, rfl⟩ | ⟨h1, -⟩
  · rw [Int.toNat_natCast]
    refine numsOfS_all (fun i hi => ?_)
    rw [h.at hi]
    unfold leftF
    have hk := hT.col col.toNat (by omega)
    have := (hk.rng i hi).2
    exact decide_eq_true (by omega)
  · exact absurd (h.right (by omega)) h1
theorem last_arg {t : Tab} {col c : Int} (hT : TabOk t) (h : LeftArg t col c) {b : Int} (hb : b = t.bins.getD col.toNat 0) : LeftArg t col (b - 1) ∧ 2 ≤ b ∧ b ≤ 32 := by
  have hk := hT.col col.toNat (by have := h.1; have := h.2.1; omega)
  have h1 := hk.lo
  have h2 := hk.hi
  refine ⟨⟨h.1, h.2.1, by omega, by omega⟩, by omega, by omega⟩
theorem ResLeft.ok {t : Tab} {col cut N : Int} {ws : List Int} (h : ResLeft t col cut 0 N ws) : TabOk t ∧ LeftArg t col cut ∧ N = (t.ids.length : Int) ∧ IsSet t.ids.length (leftF t col cut) ws := by
  rcases h with ⟨-, h2, -⟩ | ⟨-, -, h3, -⟩ | ⟨h1, h2, -, h4, h5⟩
  · cases h2
  · cases h3
  · exact ⟨h1, h2, h4, h5⟩
theorem ResLeft.is_ok {t : Tab} {col cut e N : Int} {ws : List Int} (h : ResLeft t col cut e N ws) (hT : TabOk t) (ha : LeftArg t col cut) : e = 0 ∧ N = (t.ids.length : Int) ∧ IsSet t.ids.length (leftF t col cut) ws := by
  rcases h with ⟨h1, -⟩ | ⟨-, h2, -⟩ | ⟨-, -, h3, h4, h5⟩
  · exact absurd hT h1
  · exact absurd ha h2
  · exact ⟨h3, h4, h5⟩
end Go.Proofs.Ytaiikhbfnfcalab

namespace Go.Proofs.Ytaiikhbfnfcalab
open Go.RowKit

set_option maxRecDepth 100000 in
set_option maxHeartbeats 12800000 in
theorem cu_p0 {x1 x3 x4 x5 x6 x7 x8 x9 x10 x11 x12 x13 x14 x15 x16 x17 x18 x19 x20 x21 x22 x23 x24 x25 x26 x27 x28 x29 x30 x31 x32 x33 x34 x35 x36 x37 x38 x39 x40 x41 x42 x43 x44 x45 x46 x47 x48 x49 x50 x51 x52 x53 x54 x55 x56 x57 x58 x59 x60 x61 x62 x63 x64 x65 x66 x67 x68 x69 x70 x71 x72 x73 x74 x75 x76 x77 x78 x79 x80 x81 x82 x83 x84 x85 x86 x87 x88 x89 x90 : Value} {Q : Exit → Act → World → Prop} {W : World} {v : TV} {x y : Int} 
    (hN : Q .normal ⟨#[.agg #[.slice v.p0 v.l0 v.c0, .slice v.p1 v.l1 v.c1, .slice v.p2 v.l2 v.c2], x1, .agg #[.int .i64 x, .int .i64 y], .pointer (some ⟨W.heap.size, 0, none⟩), x4, .pointer (some ⟨(W.heap.size + 1), 0, none⟩), .bool false, x7, x8, x9, x10, x11, x12, x13, x14, x15, x16, x17, x18, x19, x20, x21, x22, x23, x24, x25, x26, x27, x28, x29, x30, x31, x32, x33, x34, x35, x36, x37, x38, x39, x40, x41, x42, x43, x44, x45, x46, x47, x48, x49, x50, x51, x52, x53, x54, x55, x56, x57, x58, x59, x60, x61, x62, x63, x64, x65, x66, x67, x68, x69, x70, x71, x72, x73, x74, x75, x76, x77, x78, x79, x80, x81, x82, x83, x84, x85, x86, x87, x88, x89, x90], []⟩ ((W.alloc (.cells #[.slice v.p0 v.l0 v.c0, .slice v.p1 v.l1 v.c1, .slice v.p2 v.l2 v.c2] 25)).alloc (.cells #[.int .i64 x, .int .i64 y] 26))) :
    Code.wp Try.prog ((Try.f3.body.bind (pcAt 0)).getD .skip) Q ⟨#[.agg #[.slice v.p0 v.l0 v.c0, .slice v.p1 v.l1 v.c1, .slice v.p2 v.l2 v.c2], x1, .agg #[.int .i64 x, .int .i64 y], x3, x4, x5, x6, x7, x8, x9, x10, x11, x12, x13, x14, x15, x16, x17, x18, x19, x20, x21, x22, x23, x24, x25, x26, x27, x28, x29, x30, x31, x32, x33, x34, x35, x36, x37, x38, x39, x40, x41, x42, x43, x44, x45, x46, x47, x48, x49, x50, x51, x52, x53, x54, x55, x56, x57, x58, x59, x60, x61, x62, x63, x64, x65, x66, x67, x68, x69, x70, x71, x72, x73, x74, x75, x76, x77, x78, x79, x80, x81, x82, x83, x84, x85, x86, x87, x88, x89, x90], []⟩ W := by
  conv => arg 2; whnf
  have HN : Hid (Q .normal ⟨#[.agg #[.slice v.p0 v.l0 v.c0, .slice v.p1 v.l1 v.c1, .slice v.p2 v.l2 v.c2], x1, .agg #[.int .i64 x, .int .i64 y], .pointer (some ⟨W.heap.size, 0, none⟩), x4, .pointer (some ⟨(W.heap.size + 1), 0, none⟩), .bool false, x7, x8, x9, x10, x11, x12, x13, x14, x15, x16, x17, x18, x19, x20, x21, x22, x23, x24, x25, x26, x27, x28, x29, x30, x31, x32, x33, x34, x35, x36, x37, x38, x39, x40, x41, x42, x43, x44, x45, x46, x47, x48, x49, x50, x51, x52, x53, x54, x55, x56, x57, x58, x59, x60, x61, x62, x63, x64, x65, x66, x67, x68, x69, x70, x71, x72, x73, x74, x75, x76, x77, x78, x79, x80, x81, x82, x83, x84, x85, x86, x87, x88, x89, x90], []⟩ ((W.alloc (.cells #[.slice v.p0 v.l0 v.c0, .slice v.p1 v.l1 v.c1, .slice v.p2 v.l2 v.c2] 25)).alloc (.cells #[.int .i64 x, .int .i64 y] 26))) := hN
  clear hN
  go_wp2_with fail
  exact HN.out   

set_option maxRecDepth 100000 in
set_option maxHeartbeats 12800000 in
theorem cu_p1 {x0 x1 x2 x3 x4 x5 x6 x7 x8 x9 x10 x11 x12 x13 x14 x15 x16 x17 x18 x19 x20 x21 x22 x23 x24 x25 x26 x27 x28 x29 x30 x31 x32 x33 x34 x35 x36 x37 x38 x39 x40 x41 x42 x43 x44 x45 x46 x47 x48 x49 x50 x51 x52 x53 x54 x55 x56 x57 x58 x59 x60 x61 x62 x63 x64 x65 x66 x67 x68 x69 x70 x71 x72 x73 x74 x75 x76 x77 x78 x79 x80 x81 x82 x83 x84 x85 x86 x87 x88 x89 x90 : Value} {Q : Exit → Act → World → Prop} {W : World} (OA : AliOk15)
    (hN : ∀ (wx : World) (y18 : Value), Below W.heap.size W wx → Q .normal ⟨#[x0, x1, x2, x3, x4, x5, x6, .bool true, x8, x9, x10, x11, x12, x13, x14, x15, x16, x17, y18, x19, x20, x21, x22, x23, x24, x25, x26, x27, x28, x29, x30, x31, x32, x33, x34, x35, x36, x37, x38, x39, x40, x41, x42, x43, x44, x45, x46, x47, x48, x49, x50, x51, x52, x53, x54, x55, x56, x57, x58, x59, x60, x61, x62, x63, x64, x65, x66, x67, x68, x69, x70, x71, x72, x73, x74, x75, x76, x77, x78, x79, x80, x81, x82, x83, x84, x85, x86, x87, x88, x89, x90], []⟩ wx) :
    Code.wp Try.prog ((Try.f3.body.bind (pcAt 1)).getD .skip) Q ⟨#[x0, x1, x2, x3, x4, x5, x6, x7, x8, x9, x10, x11, x12, x13, x14, x15, x16, x17, x18, x19, x20, x21, x22, x23, x24, x25, x26, x27, x28, x29, x30, x31, x32, x33, x34, x35, x36, x37, x38, x39, x40, x41, x42, x43, x44, x45, x46, x47, x48, x49, x50, x51, x52, x53, x54, x55, x56, x57, x58, x59, x60, x61, x62, x63, x64, x65, x66, x67, x68, x69, x70, x71, x72, x73, x74, x75, x76, x77, x78, x79, x80, x81, x82, x83, x84, x85, x86, x87, x88, x89, x90], []⟩ W := by
  conv => arg 2; whnf
  have HN : Hid (∀ (wx : World) (y18 : Value), Below W.heap.size W wx → Q .normal ⟨#[x0, x1, x2, x3, x4, x5, x6, .bool true, x8, x9, x10, x11, x12, x13, x14, x15, x16, x17, y18, x19, x20, x21, x22, x23, x24, x25, x26, x27, x28, x29, x30, x31, x32, x33, x34, x35, x36, x37, x38, x39, x40, x41, x42, x43, x44, x45, x46, x47, x48, x49, x50, x51, x52, x53, x54, x55, x56, x57, x58, x59, x60, x61, x62, x63, x64, x65, x66, x67, x68, x69, x70, x71, x72, x73, x74, x75, x76, x77, x78, x79, x80, x81, x82, x83, x84, x85, x86, x87, x88, x89, x90], []⟩ wx) := hN
  clear hN
  have HA := (show Hid _ from awake15_any OA W)
  go_wp2_with fail
  refine Calls.mono HA.out ?_
  rintro e wx ⟨rfl, h1⟩
  have HT : Hid (Below W.heap.size W wx) := h1
  clear HA h1
  dsimp only
  go_wp2_with fail
  exact HN.out wx _ HT.out

set_option maxRecDepth 100000 in
set_option maxHeartbeats 12800000 in
theorem cu_p2 {x0 x1 x2 x3 x4 x6 x7 x8 x9 x10 x11 x12 x13 x14 x15 x16 x17 x18 x19 x20 x21 x22 x23 x24 x25 x26 x27 x28 x29 x30 x31 x32 x33 x34 x35 x36 x37 x38 x39 x40 x41 x42 x43 x44 x45 x46 x47 x48 x49 x50 x51 x52 x53 x54 x55 x56 x57 x58 x59 x60 x61 x62 x63 x64 x65 x66 x67 x68 x69 x70 x71 x72 x73 x74 x75 x76 x77 x78 x79 x80 x81 x82 x83 x84 x85 x86 x87 x88 x89 x90 : Value} {Q : Exit → Act → World → Prop} {W : World} {h : Nat} {x y : Int} (y0 : W.cell? ⟨h, 0, none⟩ = some (.int .i64 x)) (y1 : W.cell? ⟨h, 1, none⟩ = some (.int .i64 y))
    (hN : ∀ (y19 y20 y21 y22 y23 : Value), Q .normal ⟨#[x0, x1, x2, x3, x4, .pointer (some ⟨h, 0, none⟩), x6, x7, .int .i64 (min x y), x9, x10, x11, x12, x13, x14, x15, x16, x17, x18, y19, y20, y21, y22, y23, x24, x25, x26, x27, x28, x29, x30, x31, x32, x33, x34, x35, x36, x37, x38, x39, x40, x41, x42, x43, x44, x45, x46, x47, x48, x49, x50, x51, x52, x53, x54, x55, x56, x57, x58, x59, x60, x61, x62, x63, x64, x65, x66, x67, x68, x69, x70, x71, x72, x73, x74, x75, x76, x77, x78, x79, x80, x81, x82, x83, x84, x85, x86, x87, x88, x89, x90], []⟩ W) :
    Code.wp Try.prog ((Try.f3.body.bind (pcAt 2)).getD .skip) Q ⟨#[x0, x1, x2, x3, x4, .pointer (some ⟨h, 0, none⟩), x6, x7, x8, x9, x10, x11, x12, x13, x14, x15, x16, x17, x18, x19, x20, x21, x22, x23, x24, x25, x26, x27, x28, x29, x30, x31, x32, x33, x34, x35, x36, x37, x38, x39, x40, x41, x42, x43, x44, x45, x46, x47, x48, x49, x50, x51, x52, x53, x54, x55, x56, x57, x58, x59, x60, x61, x62, x63, x64, x65, x66, x67, x68, x69, x70, x71, x72, x73, x74, x75, x76, x77, x78, x79, x80, x81, x82, x83, x84, x85, x86, x87, x88, x89, x90], []⟩ W := by
  conv => arg 2; whnf
  have HN : Hid (∀ (y19 y20 y21 y22 y23 : Value), Q .normal ⟨#[x0, x1, x2, x3, x4, .pointer (some ⟨h, 0, none⟩), x6, x7, .int .i64 (min x y), x9, x10, x11, x12, x13, x14, x15, x16, x17, x18, y19, y20, y21, y22, y23, x24, x25, x26, x27, x28, x29, x30, x31, x32, x33, x34, x35, x36, x37, x38, x39, x40, x41, x42, x43, x44, x45, x46, x47, x48, x49, x50, x51, x52, x53, x54, x55, x56, x57, x58, x59, x60, x61, x62, x63, x64, x65, x66, x67, x68, x69, x70, x71, x72, x73, x74, x75, x76, x77, x78, x79, x80, x81, x82, x83, x84, x85, x86, x87, x88, x89, x90], []⟩ W) := hN
  clear hN
  go_wp2_with fail
  exact HN.out  _ _ _ _ _ 

set_option maxRecDepth 100000 in
set_option maxHeartbeats 12800000 in
theorem cu_p3 {x0 x1 x2 x3 x4 x6 x7 x8 x9 x10 x11 x12 x13 x14 x15 x16 x17 x18 x19 x20 x21 x22 x23 x24 x25 x26 x27 x28 x29 x30 x31 x32 x33 x34 x35 x36 x37 x38 x39 x40 x41 x42 x43 x44 x45 x46 x47 x48 x49 x50 x51 x52 x53 x54 x55 x56 x57 x58 x59 x60 x61 x62 x63 x64 x65 x66 x67 x68 x69 x70 x71 x72 x73 x74 x75 x76 x77 x78 x79 x80 x81 x82 x83 x84 x85 x86 x87 x88 x89 x90 : Value} {Q : Exit → Act → World → Prop} {W : World} {h : Nat} {x y : Int} (y0 : W.cell? ⟨h, 0, none⟩ = some (.int .i64 x)) (y1 : W.cell? ⟨h, 1, none⟩ = some (.int .i64 y))
    (hN : ∀ (y24 y25 y26 y27 y28 : Value), Q .normal ⟨#[x0, x1, x2, x3, x4, .pointer (some ⟨h, 0, none⟩), x6, x7, x8, .int .i64 (max x y), x10, x11, x12, x13, x14, x15, x16, x17, x18, x19, x20, x21, x22, x23, y24, y25, y26, y27, y28, x29, x30, x31, x32, x33, x34, x35, x36, x37, x38, x39, x40, x41, x42, x43, x44, x45, x46, x47, x48, x49, x50, x51, x52, x53, x54, x55, x56, x57, x58, x59, x60, x61, x62, x63, x64, x65, x66, x67, x68, x69, x70, x71, x72, x73, x74, x75, x76, x77, x78, x79, x80, x81, x82, x83, x84, x85, x86, x87, x88, x89, x90], []⟩ W) :
    Code.wp Try.prog ((Try.f3.body.bind (pcAt 3)).getD .skip) Q ⟨#[x0, x1, x2, x3, x4, .pointer (some ⟨h, 0, none⟩), x6, x7, x8, x9, x10, x11, x12, x13, x14, x15, x16, x17, x18, x19, x20, x21, x22, x23, x24, x25, x26, x27, x28, x29, x30, x31, x32, x33, x34, x35, x36, x37, x38, x39, x40, x41, x42, x43, x44, x45, x46, x47, x48, x49, x50, x51, x52, x53, x54, x55, x56, x57, x58, x59, x60, x61, x62, x63, x64, x65, x66, x67, x68, x69, x70, x71, x72, x73, x74, x75, x76, x77, x78, x79, x80, x81, x82, x83, x84, x85, x86, x87, x88, x89, x90], []⟩ W := by
  conv => arg 2; whnf
  have HN : Hid (∀ (y24 y25 y26 y27 y28 : Value), Q .normal ⟨#[x0, x1, x2, x3, x4, .pointer (some ⟨h, 0, none⟩), x6, x7, x8, .int .i64 (max x y), x10, x11, x12, x13, x14, x15, x16, x17, x18, x19, x20, x21, x22, x23, y24, y25, y26, y27, y28, x29, x30, x31, x32, x33, x34, x35, x36, x37, x38, x39, x40, x41, x42, x43, x44, x45, x46, x47, x48, x49, x50, x51, x52, x53, x54, x55, x56, x57, x58, x59, x60, x61, x62, x63, x64, x65, x66, x67, x68, x69, x70, x71, x72, x73, x74, x75, x76, x77, x78, x79, x80, x81, x82, x83, x84, x85, x86, x87, x88, x89, x90], []⟩ W) := hN
  clear hN
  go_wp2_with fail
  exact HN.out  _ _ _ _ _ 

set_option maxRecDepth 100000 in
set_option maxHeartbeats 12800000 in
theorem cu_p4 {x0 x2 x4 x5 x6 x7 x9 x10 x11 x12 x13 x14 x15 x16 x17 x18 x19 x20 x21 x22 x23 x24 x25 x26 x27 x28 x29 x30 x31 x32 x33 x34 x35 x36 x37 x38 x39 x40 x41 x42 x43 x44 x45 x46 x47 x48 x49 x50 x51 x52 x53 x54 x55 x56 x57 x58 x59 x60 x61 x62 x63 x64 x65 x66 x67 x68 x69 x70 x71 x72 x73 x74 x75 x76 x77 x78 x79 x80 x81 x82 x83 x84 x85 x86 x87 x88 x89 x90 : Value} {Q : Exit → Act → World → Prop} {W : World} {g : Nat} {v : TV} {t : Tab} {col cut : Int} (OF : LefOk15) (hc : -9223372036854775808 ≤ col ∧ col < 9223372036854775808) (hu : -9223372036854775808 ≤ cut ∧ cut < 9223372036854775808) (hv : TVar W g v) (ht : TabAt W v t)
    (hN : ∀ (N : Int) (a : Option Addr) (l c : Nat) (ws : List Int) (err : Int) (wx : World) (y29 y30 y31 y32 y33 y34 y35 : Value), Nums wx a l c ws → ResLeft t col cut err N ws → Below W.heap.size W wx → Q .normal ⟨#[x0, .int .i64 col, x2, .pointer (some ⟨g, 0, none⟩), x4, x5, x6, x7, .int .i64 cut, x9, .pointer (some ⟨wx.heap.size, 0, none⟩), .int .i64 err, x12, x13, x14, x15, x16, x17, x18, x19, x20, x21, x22, x23, x24, x25, x26, x27, x28, y29, y30, y31, y32, y33, y34, y35, x36, x37, x38, x39, x40, x41, x42, x43, x44, x45, x46, x47, x48, x49, x50, x51, x52, x53, x54, x55, x56, x57, x58, x59, x60, x61, x62, x63, x64, x65, x66, x67, x68, x69, x70, x71, x72, x73, x74, x75, x76, x77, x78, x79, x80, x81, x82, x83, x84, x85, x86, x87, x88, x89, x90], []⟩ (wx.alloc (.cells #[.int .i64 N, .slice a l c] 30))) :
    Code.wp Try.prog ((Try.f3.body.bind (pcAt 4)).getD .skip) Q ⟨#[x0, .int .i64 col, x2, .pointer (some ⟨g, 0, none⟩), x4, x5, x6, x7, .int .i64 cut, x9, x10, x11, x12, x13, x14, x15, x16, x17, x18, x19, x20, x21, x22, x23, x24, x25, x26, x27, x28, x29, x30, x31, x32, x33, x34, x35, x36, x37, x38, x39, x40, x41, x42, x43, x44, x45, x46, x47, x48, x49, x50, x51, x52, x53, x54, x55, x56, x57, x58, x59, x60, x61, x62, x63, x64, x65, x66, x67, x68, x69, x70, x71, x72, x73, x74, x75, x76, x77, x78, x79, x80, x81, x82, x83, x84, x85, x86, x87, x88, x89, x90], []⟩ W := by
  conv => arg 2; whnf
  have HN : Hid (∀ (N : Int) (a : Option Addr) (l c : Nat) (ws : List Int) (err : Int) (wx : World) (y29 y30 y31 y32 y33 y34 y35 : Value), Nums wx a l c ws → ResLeft t col cut err N ws → Below W.heap.size W wx → Q .normal ⟨#[x0, .int .i64 col, x2, .pointer (some ⟨g, 0, none⟩), x4, x5, x6, x7, .int .i64 cut, x9, .pointer (some ⟨wx.heap.size, 0, none⟩), .int .i64 err, x12, x13, x14, x15, x16, x17, x18, x19, x20, x21, x22, x23, x24, x25, x26, x27, x28, y29, y30, y31, y32, y33, y34, y35, x36, x37, x38, x39, x40, x41, x42, x43, x44, x45, x46, x47, x48, x49, x50, x51, x52, x53, x54, x55, x56, x57, x58, x59, x60, x61, x62, x63, x64, x65, x66, x67, x68, x69, x70, x71, x72, x73, x74, x75, x76, x77, x78, x79, x80, x81, x82, x83, x84, x85, x86, x87, x88, x89, x90], []⟩ (wx.alloc (.cells #[.int .i64 N, .slice a l c] 30))) := hN
  clear hN
  obtain ⟨x0, x1, x2, -⟩ := hv.cells
  have HC := (show Hid _ from OF v t col cut W hc hu ht)
  clear hv ht hc hu
  go_wp2_with fail
  refine Calls.mono HC.out ?_
  rintro e wx ⟨N, a, l, c, ws, err, rfl, h1, h2, h3⟩
  have HT : Hid (Nums wx a l c ws ∧ ResLeft t col cut err N ws ∧ Below W.heap.size W wx) := ⟨h1, h2, h3⟩
  clear h1 h2 h3 HC x0 x1 x2
  dsimp only
  go_wp2_with fail
  exact HN.out N a l c ws err wx _ _ _ _ _ _ _ HT.out.1 HT.out.2.1 HT.out.2.2

set_option maxRecDepth 100000 in
set_option maxHeartbeats 12800000 in
theorem cu_p5 {x0 x2 x4 x5 x6 x7 x8 x10 x11 x12 x13 x14 x15 x16 x17 x18 x19 x20 x21 x22 x23 x24 x25 x26 x27 x28 x29 x30 x31 x32 x33 x34 x35 x36 x37 x38 x39 x40 x41 x42 x43 x44 x45 x46 x47 x48 x49 x50 x51 x52 x53 x54 x55 x56 x57 x58 x59 x60 x61 x62 x63 x64 x65 x66 x67 x68 x69 x70 x71 x72 x73 x74 x75 x76 x77 x78 x79 x80 x81 x82 x83 x84 x85 x86 x87 x88 x89 x90 : Value} {Q : Exit → Act → World → Prop} {W : World} {g : Nat} {v : TV} {t : Tab} {col cut : Int} (OF : LefOk15) (hc : -9223372036854775808 ≤ col ∧ col < 9223372036854775808) (hu : -9223372036854775808 ≤ cut ∧ cut < 9223372036854775808) (hv : TVar W g v) (ht : TabAt W v t)
    (hN : ∀ (N : Int) (a : Option Addr) (l c : Nat) (ws : List Int) (err : Int) (wx : World) (y36 y37 y38 y39 y40 y41 y42 : Value), Nums wx a l c ws → ResLeft t col cut err N ws → Below W.heap.size W wx → Q .normal ⟨#[x0, .int .i64 col, x2, .pointer (some ⟨g, 0, none⟩), x4, x5, x6, x7, x8, .int .i64 cut, x10, x11, .pointer (some ⟨wx.heap.size, 0, none⟩), .int .i64 err, x14, x15, x16, x17, x18, x19, x20, x21, x22, x23, x24, x25, x26, x27, x28, x29, x30, x31, x32, x33, x34, x35, y36, y37, y38, y39, y40, y41, y42, x43, x44, x45, x46, x47, x48, x49, x50, x51, x52, x53, x54, x55, x56, x57, x58, x59, x60, x61, x62, x63, x64, x65, x66, x67, x68, x69, x70, x71, x72, x73, x74, x75, x76, x77, x78, x79, x80, x81, x82, x83, x84, x85, x86, x87, x88, x89, x90], []⟩ (wx.alloc (.cells #[.int .i64 N, .slice a l c] 30))) :
    Code.wp Try.prog ((Try.f3.body.bind (pcAt 5)).getD .skip) Q ⟨#[x0, .int .i64 col, x2, .pointer (some ⟨g, 0, none⟩), x4, x5, x6, x7, x8, .int .i64 cut, x10, x11, x12, x13, x14, x15, x16, x17, x18, x19, x20, x21, x22, x23, x24, x25, x26, x27, x28, x29, x30, x31, x32, x33, x34, x35, x36, x37, x38, x39, x40, x41, x42, x43, x44, x45, x46, x47, x48, x49, x50, x51, x52, x53, x54, x55, x56, x57, x58, x59, x60, x61, x62, x63, x64, x65, x66, x67, x68, x69, x70, x71, x72, x73, x74, x75, x76, x77, x78, x79, x80, x81, x82, x83, x84, x85, x86, x87, x88, x89, x90], []⟩ W := by
  conv => arg 2; whnf
  have HN : Hid (∀ (N : Int) (a : Option Addr) (l c : Nat) (ws : List Int) (err : Int) (wx : World) (y36 y37 y38 y39 y40 y41 y42 : Value), Nums wx a l c ws → ResLeft t col cut err N ws → Below W.heap.size W wx → Q .normal ⟨#[x0, .int .i64 col, x2, .pointer (some ⟨g, 0, none⟩), x4, x5, x6, x7, x8, .int .i64 cut, x10, x11, .pointer (some ⟨wx.heap.size, 0, none⟩), .int .i64 err, x14, x15, x16, x17, x18, x19, x20, x21, x22, x23, x24, x25, x26, x27, x28, x29, x30, x31, x32, x33, x34, x35, y36, y37, y38, y39, y40, y41, y42, x43, x44, x45, x46, x47, x48, x49, x50, x51, x52, x53, x54, x55, x56, x57, x58, x59, x60, x61, x62, x63, x64, x65, x66, x67, x68, x69, x70, x71, x72, x73, x74, x75, x76, x77, x78, x79, x80, x81, x82, x83, x84, x85, x86, x87, x88, x89, x90], []⟩ (wx.alloc (.cells #[.int .i64 N, .slice a l c] 30))) := hN
  clear hN
  obtain ⟨x0, x1, x2, -⟩ := hv.cells
  have HC := (show Hid _ from OF v t col cut W hc hu ht)
  clear hv ht hc hu
  go_wp2_with fail
  refine Calls.mono HC.out ?_
  rintro e wx ⟨N, a, l, c, ws, err, rfl, h1, h2, h3⟩
  have HT : Hid (Nums wx a l c ws ∧ ResLeft t col cut err N ws ∧ Below W.heap.size W wx) := ⟨h1, h2, h3⟩
  clear h1 h2 h3 HC x0 x1 x2
  dsimp only
  go_wp2_with fail
  exact HN.out N a l c ws err wx _ _ _ _ _ _ _ HT.out.1 HT.out.2.1 HT.out.2.2

set_option maxRecDepth 100000 in
set_option maxHeartbeats 12800000 in
theorem cu_p6 {x0 x1 x2 x3 x4 x5 x6 x8 x9 x10 x12 x14 x15 x16 x17 x18 x19 x20 x21 x22 x23 x24 x25 x26 x27 x28 x29 x30 x31 x32 x33 x34 x35 x36 x37 x38 x39 x40 x41 x42 x43 x44 x45 x46 x47 x48 x49 x50 x51 x52 x53 x54 x55 x56 x57 x58 x59 x60 x61 x62 x63 x64 x65 x66 x67 x68 x69 x70 x71 x72 x73 x74 x75 x76 x77 x78 x79 x80 x81 x82 x83 x84 x85 x86 x87 x88 x89 x90 : Value} {Q : Exit → Act → World → Prop} {W : World} {e f : Int} 
    (hN : ∀ (y6 y43 y44 y45 y46 y47 y48 y49 y50 y51 y52 y53 : Value), e = 0 → f = 0 → Q .normal ⟨#[x0, x1, x2, x3, x4, x5, y6, .bool true, x8, x9, x10, .int .i64 e, x12, .int .i64 f, x14, x15, x16, x17, x18, x19, x20, x21, x22, x23, x24, x25, x26, x27, x28, x29, x30, x31, x32, x33, x34, x35, x36, x37, x38, x39, x40, x41, x42, y43, y44, y45, y46, y47, y48, y49, y50, y51, y52, y53, x54, x55, x56, x57, x58, x59, x60, x61, x62, x63, x64, x65, x66, x67, x68, x69, x70, x71, x72, x73, x74, x75, x76, x77, x78, x79, x80, x81, x82, x83, x84, x85, x86, x87, x88, x89, x90], []⟩ W)
    (hR : ∀ (y43 y44 y45 y46 y47 y48 y49 y50 y51 y52 y53 : Value), Q .ret ⟨#[x0, x1, x2, x3, x4, x5, .bool true, .bool true, x8, x9, x10, .int .i64 e, x12, .int .i64 f, x14, x15, x16, x17, x18, x19, x20, x21, x22, x23, x24, x25, x26, x27, x28, x29, x30, x31, x32, x33, x34, x35, x36, x37, x38, x39, x40, x41, x42, y43, y44, y45, y46, y47, y48, y49, y50, y51, y52, y53, x54, x55, x56, x57, x58, x59, x60, x61, x62, x63, x64, x65, x66, x67, x68, x69, x70, x71, x72, x73, x74, x75, x76, x77, x78, x79, x80, x81, x82, x83, x84, x85, x86, x87, x88, x89, x90], []⟩ W) :
    Code.wp Try.prog ((Try.f3.body.bind (pcAt 6)).getD .skip) Q ⟨#[x0, x1, x2, x3, x4, x5, x6, .bool true, x8, x9, x10, .int .i64 e, x12, .int .i64 f, x14, x15, x16, x17, x18, x19, x20, x21, x22, x23, x24, x25, x26, x27, x28, x29, x30, x31, x32, x33, x34, x35, x36, x37, x38, x39, x40, x41, x42, x43, x44, x45, x46, x47, x48, x49, x50, x51, x52, x53, x54, x55, x56, x57, x58, x59, x60, x61, x62, x63, x64, x65, x66, x67, x68, x69, x70, x71, x72, x73, x74, x75, x76, x77, x78, x79, x80, x81, x82, x83, x84, x85, x86, x87, x88, x89, x90], []⟩ W := by
  conv => arg 2; whnf
  have HN : Hid (∀ (y6 y43 y44 y45 y46 y47 y48 y49 y50 y51 y52 y53 : Value), e = 0 → f = 0 → Q .normal ⟨#[x0, x1, x2, x3, x4, x5, y6, .bool true, x8, x9, x10, .int .i64 e, x12, .int .i64 f, x14, x15, x16, x17, x18, x19, x20, x21, x22, x23, x24, x25, x26, x27, x28, x29, x30, x31, x32, x33, x34, x35, x36, x37, x38, x39, x40, x41, x42, y43, y44, y45, y46, y47, y48, y49, y50, y51, y52, y53, x54, x55, x56, x57, x58, x59, x60, x61, x62, x63, x64, x65, x66, x67, x68, x69, x70, x71, x72, x73, x74, x75, x76, x77, x78, x79, x80, x81, x82, x83, x84, x85, x86, x87, x88, x89, x90], []⟩ W) := hN
  have HR : Hid (∀ (y43 y44 y45 y46 y47 y48 y49 y50 y51 y52 y53 : Value), Q .ret ⟨#[x0, x1, x2, x3, x4, x5, .bool true, .bool true, x8, x9, x10, .int .i64 e, x12, .int .i64 f, x14, x15, x16, x17, x18, x19, x20, x21, x22, x23, x24, x25, x26, x27, x28, x29, x30, x31, x32, x33, x34, x35, x36, x37, x38, x39, x40, x41, x42, y43, y44, y45, y46, y47, y48, y49, y50, y51, y52, y53, x54, x55, x56, x57, x58, x59, x60, x61, x62, x63, x64, x65, x66, x67, x68, x69, x70, x71, x72, x73, x74, x75, x76, x77, x78, x79, x80, x81, x82, x83, x84, x85, x86, x87, x88, x89, x90], []⟩ W) := hR
  clear hN hR
  by_cases he : e = 0
  case neg =>
    have k1 : (e != 0) = true := by simp [he]
    have k2 : (e == 0) = false := by simp [he]
    clear HN he
    go_wp2_with fail
    exact HR.out  _ _ _ _ _ _ _ _ _ _ _ 
  subst he
  by_cases hf : f = 0
  case neg =>
    have k1 : (f != 0) = true := by simp [hf]
    have k2 : (f == 0) = false := by simp [hf]
    clear HN hf
    go_wp2_with fail
    exact HR.out  _ _ _ _ _ _ _ _ _ _ _ 
  subst hf
  clear HR
  go_wp2_with fail
  exact HN.out  _ _ _ _ _ _ _ _ _ _ _ _ (by trivial) (by trivial)

set_option maxRecDepth 100000 in
set_option maxHeartbeats 12800000 in
theorem cu_p8 {x0 x1 x2 x3 x4 x5 x6 x7 x8 x9 x11 x13 x14 x15 x16 x17 x18 x19 x20 x21 x22 x23 x24 x25 x26 x27 x28 x29 x30 x31 x32 x33 x34 x35 x36 x37 x38 x39 x40 x41 x42 x43 x44 x45 x46 x47 x48 x49 x50 x51 x52 x53 x54 x55 x56 x57 x58 x59 x60 x61 x62 x63 x64 x65 x66 x67 x68 x69 x70 x71 x72 x73 x74 x75 x76 x77 x78 x79 x80 x81 x82 x83 x84 x85 x86 x87 x88 x89 x90 : Value} {Q : Exit → Act → World → Prop} {W : World} {A B : Nat} {M K : Int} {a b : Option Addr} {la ca lb cb : Nat} {ws vs : List Int} (OM : MinOk14) (hM : -9223372036854775808 ≤ M ∧ M < 9223372036854775808) (hK : -9223372036854775808 ≤ K ∧ K < 9223372036854775808) (ha : SetVar W A M a la ca) (hb : SetVar W B K b lb cb) (hx : Nums W a la ca ws) (hy : Nums W b lb cb vs)
    (hN : ∀ (N : Int) (a' : Option Addr) (l' c' : Nat) (us : List Int) (err : Int) (wx : World) (y54 y55 y56 y57 y58 y59 : Value), Nums wx a' l' c' us → ResJoin (fun x y => x && !y) M ws K vs N us err → Below W.heap.size W wx → Q .normal ⟨#[x0, x1, x2, x3, x4, x5, x6, x7, x8, x9, .pointer (some ⟨A, 0, none⟩), x11, .pointer (some ⟨B, 0, none⟩), x13, .pointer (some ⟨wx.heap.size, 0, none⟩), .int .i64 err, x16, x17, x18, x19, x20, x21, x22, x23, x24, x25, x26, x27, x28, x29, x30, x31, x32, x33, x34, x35, x36, x37, x38, x39, x40, x41, x42, x43, x44, x45, x46, x47, x48, x49, x50, x51, x52, x53, y54, y55, y56, y57, y58, y59, x60, x61, x62, x63, x64, x65, x66, x67, x68, x69, x70, x71, x72, x73, x74, x75, x76, x77, x78, x79, x80, x81, x82, x83, x84, x85, x86, x87, x88, x89, x90], []⟩ (wx.alloc (.cells #[.int .i64 N, .slice a' l' c'] 30))) :
    Code.wp Try.prog ((Try.f3.body.bind (pcAt 8)).getD .skip) Q ⟨#[x0, x1, x2, x3, x4, x5, x6, x7, x8, x9, .pointer (some ⟨A, 0, none⟩), x11, .pointer (some ⟨B, 0, none⟩), x13, x14, x15, x16, x17, x18, x19, x20, x21, x22, x23, x24, x25, x26, x27, x28, x29, x30, x31, x32, x33, x34, x35, x36, x37, x38, x39, x40, x41, x42, x43, x44, x45, x46, x47, x48, x49, x50, x51, x52, x53, x54, x55, x56, x57, x58, x59, x60, x61, x62, x63, x64, x65, x66, x67, x68, x69, x70, x71, x72, x73, x74, x75, x76, x77, x78, x79, x80, x81, x82, x83, x84, x85, x86, x87, x88, x89, x90], []⟩ W := by
  conv => arg 2; whnf
  have HN : Hid (∀ (N : Int) (a' : Option Addr) (l' c' : Nat) (us : List Int) (err : Int) (wx : World) (y54 y55 y56 y57 y58 y59 : Value), Nums wx a' l' c' us → ResJoin (fun x y => x && !y) M ws K vs N us err → Below W.heap.size W wx → Q .normal ⟨#[x0, x1, x2, x3, x4, x5, x6, x7, x8, x9, .pointer (some ⟨A, 0, none⟩), x11, .pointer (some ⟨B, 0, none⟩), x13, .pointer (some ⟨wx.heap.size, 0, none⟩), .int .i64 err, x16, x17, x18, x19, x20, x21, x22, x23, x24, x25, x26, x27, x28, x29, x30, x31, x32, x33, x34, x35, x36, x37, x38, x39, x40, x41, x42, x43, x44, x45, x46, x47, x48, x49, x50, x51, x52, x53, y54, y55, y56, y57, y58, y59, x60, x61, x62, x63, x64, x65, x66, x67, x68, x69, x70, x71, x72, x73, x74, x75, x76, x77, x78, x79, x80, x81, x82, x83, x84, x85, x86, x87, x88, x89, x90], []⟩ (wx.alloc (.cells #[.int .i64 N, .slice a' l' c'] 30))) := hN
  clear hN
  obtain ⟨a0, a1⟩ := ha.cells
  obtain ⟨b0, b1⟩ := hb.cells
  have HC := (show Hid _ from OM M K a b la ca lb cb ws vs W hM hK hx hy)
  clear ha hb hx hy hM hK
  go_wp2_with fail
  refine Calls.mono HC.out ?_
  rintro e wx ⟨N, a', l', c', us, err, rfl, h1, h2, h3⟩
  have HT : Hid (Nums wx a' l' c' us ∧ ResJoin (fun x y => x && !y) M ws K vs N us err ∧ Below W.heap.size W wx) := ⟨h1, h2, h3⟩
  clear h1 h2 h3 HC a0 a1 b0 b1
  dsimp only
  go_wp2_with fail
  exact HN.out N a' l' c' us err wx _ _ _ _ _ _ HT.out.1 HT.out.2.1 HT.out.2.2

end Go.Proofs.Ytaiikhbfnfcalab

namespace Go.Proofs.Ytaiikhbfnfcalab
open Go.RowKit

set_option maxRecDepth 100000 in
set_option maxHeartbeats 12800000 in
theorem cu_p9 {x0 x2 x4 x5 x6 x7 x8 x9 x10 x11 x12 x13 x14 x15 x16 x17 x18 x19 x20 x21 x22 x23 x24 x25 x26 x27 x28 x29 x30 x31 x32 x33 x34 x35 x36 x37 x38 x39 x40 x41 x42 x43 x44 x45 x46 x47 x48 x49 x50 x51 x52 x53 x54 x55 x56 x57 x58 x59 x60 x61 x62 x63 x64 x65 x66 x67 x68 x69 x70 x71 x72 x73 x74 x75 x76 x77 x78 x79 x80 x81 x82 x83 x84 x85 x86 x87 x88 x89 x90 : Value} {Q : Exit → Act → World → Prop} {W : World} {g : Nat} {v : TV} {t : Tab} {k : Nat} {c0 b : Int} (OF : LefOk15) (hv : TVar W g v) (ht : TabAt W v t) (hT : TabOk t) (hL : LeftArg t (k : Int) c0) (hb : b = t.bins.getD k 0)
    (hN : ∀ (s : Nat) (a : Option Addr) (l c : Nat) (ws : List Int) (wx : World) (y60 y61 y62 y63 y64 y65 y66 y67 y68 y69 y70 y71 : Value), SetVar wx s (t.ids.length : Int) a l c → Nums wx a l c ws → IsSet t.ids.length (leftF t (k : Int) (b - 1)) ws → Below W.heap.size W wx → Q .normal ⟨#[x0, .int .i64 (k : Int), x2, .pointer (some ⟨g, 0, none⟩), x4, x5, x6, x7, x8, x9, x10, x11, x12, x13, x14, x15, .pointer (some ⟨s, 0, none⟩), .int .i64 0, x18, x19, x20, x21, x22, x23, x24, x25, x26, x27, x28, x29, x30, x31, x32, x33, x34, x35, x36, x37, x38, x39, x40, x41, x42, x43, x44, x45, x46, x47, x48, x49, x50, x51, x52, x53, x54, x55, x56, x57, x58, x59, y60, y61, y62, y63, y64, y65, y66, y67, y68, y69, y70, y71, x72, x73, x74, x75, x76, x77, x78, x79, x80, x81, x82, x83, x84, x85, x86, x87, x88, x89, x90], []⟩ wx) :
    Code.wp Try.prog ((Try.f3.body.bind (pcAt 9)).getD .skip) Q ⟨#[x0, .int .i64 (k : Int), x2, .pointer (some ⟨g, 0, none⟩), x4, x5, x6, x7, x8, x9, x10, x11, x12, x13, x14, x15, x16, x17, x18, x19, x20, x21, x22, x23, x24, x25, x26, x27, x28, x29, x30, x31, x32, x33, x34, x35, x36, x37, x38, x39, x40, x41, x42, x43, x44, x45, x46, x47, x48, x49, x50, x51, x52, x53, x54, x55, x56, x57, x58, x59, x60, x61, x62, x63, x64, x65, x66, x67, x68, x69, x70, x71, x72, x73, x74, x75, x76, x77, x78, x79, x80, x81, x82, x83, x84, x85, x86, x87, x88, x89, x90], []⟩ W := by
  conv => arg 2; whnf
  have HN : Hid (∀ (s : Nat) (a : Option Addr) (l c : Nat) (ws : List Int) (wx : World) (y60 y61 y62 y63 y64 y65 y66 y67 y68 y69 y70 y71 : Value), SetVar wx s (t.ids.length : Int) a l c → Nums wx a l c ws → IsSet t.ids.length (leftF t (k : Int) (b - 1)) ws → Below W.heap.size W wx → Q .normal ⟨#[x0, .int .i64 (k : Int), x2, .pointer (some ⟨g, 0, none⟩), x4, x5, x6, x7, x8, x9, x10, x11, x12, x13, x14, x15, .pointer (some ⟨s, 0, none⟩), .int .i64 0, x18, x19, x20, x21, x22, x23, x24, x25, x26, x27, x28, x29, x30, x31, x32, x33, x34, x35, x36, x37, x38, x39, x40, x41, x42, x43, x44, x45, x46, x47, x48, x49, x50, x51, x52, x53, x54, x55, x56, x57, x58, x59, y60, y61, y62, y63, y64, y65, y66, y67, y68, y69, y70, y71, x72, x73, x74, x75, x76, x77, x78, x79, x80, x81, x82, x83, x84, x85, x86, x87, x88, x89, x90], []⟩ wx) := hN
  clear hN
  obtain ⟨x0, x1, x2, -⟩ := hv.cells
  have hkl : k < v.l1 := by have := ht.bins.hlen; have := hT.len; have := hL.2.1; omega
  obtain ⟨hA, hb2, hb32⟩ := last_arg hT hL (b := b) (by rw [Int.toNat_natCast]; exact hb)
  obtain ⟨pb, po, ep, hc⟩ := ht.bins.cells (by omega)
  have ck := hc k hkl
  rw [← hb] at ck
  rw [ep] at x1
  have hki : (k : Int) < (v.l1 : Int) := by omega
  have hk0 : (0 : Int) ≤ (k : Int) := by omega
  have hw1 : IntKind.i64.wrap (b - 1) = b - 1 := by rw [IntKind.wrap_i64]; omega
  have m1 := ht.bins.hcap
  have m2 := ht.bins.hmax
  unfold maxLen at m2
  have HC : Hid (∀ wx : World, Below W.heap.size W wx → Calls Try.prog 5 #[.agg #[.slice v.p0 v.l0 v.c0, .slice (some ⟨pb, po, none⟩) v.l1 v.c1, .slice v.p2 v.l2 v.c2], .int .i64 (k : Int), .int .i64 (b - 1)] wx fun e w' => ∃ a l c ws, e = .returned (.tuple #[.agg #[.int .i64 (t.ids.length : Int), .slice a l c], .int .i64 0]) ∧ (w'.cell? ⟨g, 0, none⟩ = some (.slice v.p0 v.l0 v.c0) ∧ w'.cell? ⟨g, 1, none⟩ = some (.slice (some ⟨pb, po, none⟩) v.l1 v.c1) ∧ w'.cell? ⟨g, 2, none⟩ = some (.slice v.p2 v.l2 v.c2) ∧ w'.cell? ⟨pb, po + k, none⟩ = some (.int .i64 b)) ∧ Hid (Nums w' a l c ws ∧ IsSet t.ids.length (leftF t (k : Int) (b - 1)) ws ∧ Below wx.heap.size wx w' ∧ Below W.heap.size W w')) := fun wx hw => by
    have := OF v t (k : Int) (b - 1) wx (by omega) (by omega) (ht.below hw)
    rw [ep] at this
    refine this.mono ?_
    rintro e w' ⟨N, a, l, c, ws, err, rfl, h1, h2, h3⟩
    obtain ⟨rfl, rfl, h4⟩ := h2.is_ok hT hA
    have h5 := bthen hw h3
    have q1 := (hv.below h5).cells
    rw [ep] at q1
    exact ⟨a, l, c, ws, rfl, ⟨q1.1, q1.2.1, q1.2.2.1, bkeep h5 ck rfl⟩, h1, h4, h3, h5⟩
  have HCA : Hid (∀ wx : World, wx.heap[W.heap.size]? = some (.cells #[.int .i64 0, .slice none 0 0] 30 (0, 0)) → Below W.heap.size W wx → Calls Try.prog 5 #[.agg #[.slice v.p0 v.l0 v.c0, .slice (some ⟨pb, po, none⟩) v.l1 v.c1, .slice v.p2 v.l2 v.c2], .int .i64 (k : Int), .int .i64 (b - 1)] wx fun e w' => ∃ a l c ws, e = .returned (.tuple #[.agg #[.int .i64 (t.ids.length : Int), .slice a l c], .int .i64 0]) ∧ (w'.cell? ⟨g, 0, none⟩ = some (.slice v.p0 v.l0 v.c0) ∧ w'.cell? ⟨g, 1, none⟩ = some (.slice (some ⟨pb, po, none⟩) v.l1 v.c1) ∧ w'.cell? ⟨g, 2, none⟩ = some (.slice v.p2 v.l2 v.c2) ∧ w'.cell? ⟨pb, po + k, none⟩ = some (.int .i64 b)) ∧ (w'.cell? ⟨W.heap.size, 0, none⟩ = some (.int .i64 0) ∧ w'.cell? ⟨W.heap.size, 1, none⟩ = some (.slice none 0 0) ∧ w'.frozen? ⟨W.heap.size, 0, none⟩ = false ∧ w'.frozen? ⟨W.heap.size, 1, none⟩ = false) ∧ Hid (SetVar w' W.heap.size 0 none 0 0 ∧ Nums w' a l c ws ∧ IsSet t.ids.length (leftF t (k : Int) (b - 1)) ws ∧ Below W.heap.size W w')) := fun wx hh hw => (HC.out wx hw).mono fun e w' q => by
    obtain ⟨a, l, c, ws, q0, q1, q2, q3, q4, q5⟩ := q
    have q6 : SetVar w' W.heap.size 0 none 0 0 := (q4.block _ (Array.getElem?_eq_some_iff.1 hh).1).trans hh
    obtain ⟨⟨r0, f0⟩, ⟨r1, f1⟩, -, -⟩ := put2_cells q6 (.int .i64 0) (.slice none 0 0)
    exact ⟨a, l, c, ws, q0, q1, ⟨r0, r1, f0, f1⟩, q6, q2, q3, q5⟩
  have hgl := hv.lt
  have hpl : pb < W.heap.size := World.block_lt_of_cell? W _ ck
  have n0 : W.heap.size ≠ g := by omega
  have n1 : W.heap.size ≠ pb := by omega
  have k0 := n0.symm
  have k1 := n1.symm
  have HK : Hid (∀ wx, Below W.heap.size W wx → (wx.cell? ⟨g, 0, none⟩ = some (.slice v.p0 v.l0 v.c0) ∧ wx.cell? ⟨g, 1, none⟩ = some (.slice (some ⟨pb, po, none⟩) v.l1 v.c1) ∧ wx.cell? ⟨g, 2, none⟩ = some (.slice v.p2 v.l2 v.c2) ∧ wx.cell? ⟨pb, po + k, none⟩ = some (.int .i64 b))) := fun wx h => by
    have q1 := (hv.below h).cells
    rw [ep] at q1
    exact ⟨q1.1, q1.2.1, q1.2.2.1, bkeep h ck rfl⟩
  clear hv ht hT hL hb ep hc hkl hA hb2 hb32 hgl hpl OF
  refine wp_pcOnly ?_
  go_wp2_with fail
  go_region_held3 (fun w' => (w'.cell? ⟨g, 0, none⟩ = some (.slice v.p0 v.l0 v.c0) ∧ w'.cell? ⟨g, 1, none⟩ = some (.slice (some ⟨pb, po, none⟩) v.l1 v.c1) ∧ w'.cell? ⟨g, 2, none⟩ = some (.slice v.p2 v.l2 v.c2) ∧ w'.cell? ⟨pb, po + k, none⟩ = some (.int .i64 b))) (first | exact HK.out _ (by repeat (first | exact Below.refl _ _ | assumption | exact hB1.out.2.2.2 | exact put2_below hB1.out.2.2.2 (Nat.le_refl _) _ _ | refine bdr12 ?_ | refine bgr12 ?_ _)) | go_keep | with_reducible exact hS1)
    (first
    | (go_at_call 5; (with_reducible refine Calls.mono (HCA.out _ ?_ ?_) ?_); (focus (first | exact heap_alloc_new W _ | exact heap_alloc_new W.drew _ | (simp; done) | fail)); (focus (repeat (first | exact Below.refl _ _ | refine bdr12 ?_ | refine bgr12 ?_ _))); rintro e w1 ⟨a, l, c, ws, rfl, hS1, ⟨r0, r1, f0, f1⟩, hB1⟩)
    | (go_at_call 5; with_reducible refine Calls.mono (HC.out _ ?_) ?_; (focus (repeat (first | exact Below.refl _ _ | refine bdr12 ?_ | refine bgr12 ?_ _))); rintro e w1 ⟨a, l, c, ws, rfl, hS1, hB1⟩))
  all_goals first
    | exact HN.out W.heap.size a l c ws _ _ _ _ _ _ _ _ _ _ _ _ _ (SetVar.put hB1.out.1 _ _ _ _) (SetVar.nums hB1.out.1 hB1.out.2.1 _ _) hB1.out.2.2.1 (put2_below hB1.out.2.2.2 (Nat.le_refl _) _ _)
    | exact HN.out w1.heap.size a l c ws _ _ _ _ _ _ _ _ _ _ _ _ _ (SetVar.new _ _ _ _ _) (hB1.out.1.below (balloc _ _)) hB1.out.2.1 (bthen hB1.out.2.2.2 (balloc _ _))

set_option maxRecDepth 100000 in
set_option maxHeartbeats 12800000 in
theorem cu_p10 {x0 x1 x2 x4 x5 x6 x7 x8 x9 x10 x11 x12 x13 x18 x19 x20 x21 x22 x23 x24 x25 x26 x27 x28 x29 x30 x31 x32 x33 x34 x35 x36 x37 x38 x39 x40 x41 x42 x43 x44 x45 x46 x47 x48 x49 x50 x51 x52 x53 x54 x55 x56 x57 x58 x59 x60 x61 x62 x63 x64 x65 x66 x67 x68 x69 x70 x71 x72 x73 x74 x75 x76 x77 x78 x79 x80 x81 x82 x83 x84 x85 x86 x87 x88 x89 x90 : Value} {Q : Exit → Act → World → Prop} {W : World} {g C D : Nat} {v : TV} {N : Int} {a a' : Option Addr} {l c l' c' : Nat} {us vs : List Int} (OC : CntOk14) (hN : -9223372036854775808 ≤ N ∧ N < 9223372036854775808) (hv : TVar W g v) (hC : SetVar W C N a l c) (hD : SetVar W D N a' l' c') (hx : Nums W a l c us) (hy : Nums W a' l' c' vs) (h0 : ∀ ns, ResList N us ns → ns.length = 0) (h1 : ∀ ns, ResList N vs ns → ns.length = v.l0)
    (hN : ∀ (wx : World) (y72 y73 y74 y75 y76 y77 y78 y79 y80 y81 y82 y83 y84 y85 y86 y87 y88 y89 y90 : Value), Below W.heap.size W wx → Q .normal ⟨#[x0, x1, x2, .pointer (some ⟨g, 0, none⟩), x4, x5, .bool true, x7, x8, x9, x10, x11, x12, x13, .pointer (some ⟨C, 0, none⟩), .int .i64 0, .pointer (some ⟨D, 0, none⟩), .int .i64 0, x18, x19, x20, x21, x22, x23, x24, x25, x26, x27, x28, x29, x30, x31, x32, x33, x34, x35, x36, x37, x38, x39, x40, x41, x42, x43, x44, x45, x46, x47, x48, x49, x50, x51, x52, x53, x54, x55, x56, x57, x58, x59, x60, x61, x62, x63, x64, x65, x66, x67, x68, x69, x70, x71, y72, y73, y74, y75, y76, y77, y78, y79, y80, y81, y82, y83, y84, y85, y86, y87, y88, y89, y90], []⟩ wx) :
    Code.wp Try.prog ((Try.f3.body.bind (pcAt 10)).getD .skip) Q ⟨#[x0, x1, x2, .pointer (some ⟨g, 0, none⟩), x4, x5, x6, x7, x8, x9, x10, x11, x12, x13, .pointer (some ⟨C, 0, none⟩), .int .i64 0, .pointer (some ⟨D, 0, none⟩), .int .i64 0, x18, x19, x20, x21, x22, x23, x24, x25, x26, x27, x28, x29, x30, x31, x32, x33, x34, x35, x36, x37, x38, x39, x40, x41, x42, x43, x44, x45, x46, x47, x48, x49, x50, x51, x52, x53, x54, x55, x56, x57, x58, x59, x60, x61, x62, x63, x64, x65, x66, x67, x68, x69, x70, x71, x72, x73, x74, x75, x76, x77, x78, x79, x80, x81, x82, x83, x84, x85, x86, x87, x88, x89, x90], []⟩ W := by
  conv => arg 2; whnf
  have HN : Hid (∀ (wx : World) (y72 y73 y74 y75 y76 y77 y78 y79 y80 y81 y82 y83 y84 y85 y86 y87 y88 y89 y90 : Value), Below W.heap.size W wx → Q .normal ⟨#[x0, x1, x2, .pointer (some ⟨g, 0, none⟩), x4, x5, .bool true, x7, x8, x9, x10, x11, x12, x13, .pointer (some ⟨C, 0, none⟩), .int .i64 0, .pointer (some ⟨D, 0, none⟩), .int .i64 0, x18, x19, x20, x21, x22, x23, x24, x25, x26, x27, x28, x29, x30, x31, x32, x33, x34, x35, x36, x37, x38, x39, x40, x41, x42, x43, x44, x45, x46, x47, x48, x49, x50, x51, x52, x53, x54, x55, x56, x57, x58, x59, x60, x61, x62, x63, x64, x65, x66, x67, x68, x69, x70, x71, y72, y73, y74, y75, y76, y77, y78, y79, y80, y81, y82, y83, y84, y85, y86, y87, y88, y89, y90], []⟩ wx) := hN
  clear hN
  have C1 : Hid (∀ wx : World, Below W.heap.size W wx → Calls Try.prog 7 #[.agg #[.int .i64 N, .slice a l c]] wx fun e w' => e = .returned (.int .i64 0) ∧ ((w'.cell? ⟨C, 0, none⟩ = some (.int .i64 N) ∧ w'.cell? ⟨C, 1, none⟩ = some (.slice a l c)) ∧ (w'.cell? ⟨D, 0, none⟩ = some (.int .i64 N) ∧ w'.cell? ⟨D, 1, none⟩ = some (.slice a' l' c')) ∧ w'.cell? ⟨g, 0, none⟩ = some (.slice v.p0 v.l0 v.c0)) ∧ Hid (Below W.heap.size W w')) := fun wx hb => (OC N a l c us wx hN (hx.below hb)).mono fun e w' q => by
    obtain ⟨ns, q1, q2, q3⟩ := q
    have q4 := bthen hb q3
    have q5 : (ns.length : Int) = 0 := by rw [h0 ns q2]; rfl
    exact ⟨by rw [q1, q5], ⟨(hC.below q4).cells, (hD.below q4).cells, (hv.below q4).cells.1⟩, q4⟩
  have C2 : Hid (∀ wx : World, Below W.heap.size W wx → Calls Try.prog 7 #[.agg #[.int .i64 N, .slice a' l' c']] wx fun e w' => e = .returned (.int .i64 (v.l0 : Int)) ∧ ((w'.cell? ⟨C, 0, none⟩ = some (.int .i64 N) ∧ w'.cell? ⟨C, 1, none⟩ = some (.slice a l c)) ∧ (w'.cell? ⟨D, 0, none⟩ = some (.int .i64 N) ∧ w'.cell? ⟨D, 1, none⟩ = some (.slice a' l' c')) ∧ w'.cell? ⟨g, 0, none⟩ = some (.slice v.p0 v.l0 v.c0)) ∧ Hid (Below W.heap.size W w')) := fun wx hb => (OC N a' l' c' vs wx hN (hy.below hb)).mono fun e w' q => by
    obtain ⟨ns, q1, q2, q3⟩ := q
    have q4 := bthen hb q3
    have q5 : (ns.length : Int) = (v.l0 : Int) := by rw [h1 ns q2]
    exact ⟨by rw [q1, q5], ⟨(hC.below q4).cells, (hD.below q4).cells, (hv.below q4).cells.1⟩, q4⟩
  obtain ⟨a0, a1⟩ := hC.cells
  obtain ⟨b0, b1⟩ := hD.cells
  have x0 := hv.cells.1
  have k3 : ((v.l0 : Int) == (v.l0 : Int)) = true := by simp
  clear hC hD hv hx hy hN h0 h1 OC
  refine wp_pcOnly ?_
  go_wp2_with fail
  go_region_held3 (fun w' => ((w'.cell? ⟨C, 0, none⟩ = some (.int .i64 N) ∧ w'.cell? ⟨C, 1, none⟩ = some (.slice a l c)) ∧ (w'.cell? ⟨D, 0, none⟩ = some (.int .i64 N) ∧ w'.cell? ⟨D, 1, none⟩ = some (.slice a' l' c')) ∧ w'.cell? ⟨g, 0, none⟩ = some (.slice v.p0 v.l0 v.c0))) (first | go_keep | with_reducible exact hS1 | with_reducible exact hS2)
    (first
    | (go_at_call 7; with_reducible refine Calls.mono (C1.out _ ?_) ?_; (focus (repeat (first | exact Below.refl _ _ | refine bdr12 ?_))); rintro e w1 ⟨rfl, hS1, hB1⟩)
    | (go_at_call 7; with_reducible refine Calls.mono (C2.out _ hB1.out) ?_; rintro e w2 ⟨rfl, hS2, hB2⟩))
  all_goals
    exact HN.out w2 _ _ _ _ _ _ _ _ _ _ _ _ _ _ _ _ _ _ _ hB2.out

set_option maxRecDepth 100000 in
theorem cu_ret {x0 x1 x2 x3 x4 x5 x7 x8 x9 x10 x11 x12 x13 x14 x15 x16 x17 x18 x19 x20 x21 x22 x23 x24 x25 x26 x27 x28 x29 x30 x31 x32 x33 x34 x35 x36 x37 x38 x39 x40 x41 x42 x43 x44 x45 x46 x47 x48 x49 x50 x51 x52 x53 x54 x55 x56 x57 x58 x59 x60 x61 x62 x63 x64 x65 x66 x67 x68 x69 x70 x71 x72 x73 x74 x75 x76 x77 x78 x79 x80 x81 x82 x83 x84 x85 x86 x87 x88 x89 x90 : Value}  {post : Ending → World → Prop} {W : World} (h : post (.returned (.bool true)) W) : bodyPost Try.prog Try.f3 post .ret ⟨#[x0, x1, x2, x3, x4, x5, .bool true, x7, x8, x9, x10, x11, x12, x13, x14, x15, x16, x17, x18, x19, x20, x21, x22, x23, x24, x25, x26, x27, x28, x29, x30, x31, x32, x33, x34, x35, x36, x37, x38, x39, x40, x41, x42, x43, x44, x45, x46, x47, x48, x49, x50, x51, x52, x53, x54, x55, x56, x57, x58, x59, x60, x61, x62, x63, x64, x65, x66, x67, x68, x69, x70, x71, x72, x73, x74, x75, x76, x77, x78, x79, x80, x81, x82, x83, x84, x85, x86, x87, x88, x89, x90], []⟩ W :=
  bodyPost_ret (v := .bool true) (by simp [results, Try.results3, go_sem]) rfl h

set_option maxRecDepth 100000 in
set_option maxHeartbeats 12800000 in
theorem cuts15_walk (OA : AliOk15) (OF : LefOk15) (OM : MinOk14) (OC : CntOk14) (v : TV) (t : Tab) (col x y : Int) (w : World) (ht : TabAt w v t) (hc : -9223372036854775808 ≤ col ∧ col < 9223372036854775808) (hx : -9223372036854775808 ≤ x ∧ x < 9223372036854775808) (hy : -9223372036854775808 ≤ y ∧ y < 9223372036854775808) : Calls Try.prog 3 #[.agg #[.slice v.p0 v.l0 v.c0, .slice v.p1 v.l1 v.c1, .slice v.p2 v.l2 v.c2], .int .i64 col, .agg #[.int .i64 x, .int .i64 y]] w fun e w' => e = .returned (.bool true) ∧ Below w.heap.size w w' := by
  go_enter Try.func3, Try.ntmps3
  refine pcSeq (fun Q0 n0 r0 _ => cu_p0 ?_)
  have hV1 := balloc w (.cells #[.slice v.p0 v.l0 v.c0, .slice v.p1 v.l1 v.c1, .slice v.p2 v.l2 v.c2] 25)
  have hV2 := balloc (w.alloc (.cells #[.slice v.p0 v.l0 v.c0, .slice v.p1 v.l1 v.c1, .slice v.p2 v.l2 v.c2] 25)) (.cells #[.int .i64 x, .int .i64 y] 26)
  have hV := bthen hV1 hV2
  have hv := (TVar.new w v).below hV2
  have hR := heap_alloc_new (w.alloc (.cells #[.slice v.p0 v.l0 v.c0, .slice v.p1 v.l1 v.c1, .slice v.p2 v.l2 v.c2] 25)) (.cells #[.int .i64 x, .int .i64 y] 26)
  rw [show (w.alloc (.cells #[.slice v.p0 v.l0 v.c0, .slice v.p1 v.l1 v.c1, .slice v.p2 v.l2 v.c2] 25)).heap.size = w.heap.size + 1 by simp] at hR
  obtain ⟨V, hVe⟩ : ∃ V, V = (w.alloc (.cells #[.slice v.p0 v.l0 v.c0, .slice v.p1 v.l1 v.c1, .slice v.p2 v.l2 v.c2] 25)).alloc (.cells #[.int .i64 x, .int .i64 y] 26) := ⟨_, rfl⟩
  have y0 : V.cell? ⟨w.heap.size + 1, 0, none⟩ = some (.int .i64 x) := by rw [hVe, cell_of_row _ _ _ _ _ _ hR]; rfl
  have y1 : V.cell? ⟨w.heap.size + 1, 1, none⟩ = some (.int .i64 y) := by rw [hVe, cell_of_row _ _ _ _ _ _ hR]; rfl
  have hv2 : TVar V w.heap.size v := by rw [hVe]; exact hv
  rw [← hVe] at hV
  rw [← hVe]
  clear hv hR hV1 hV2 hVe
  replace ht := ht.below hV
  refine n0 _ _ (pcSeq (fun Q1 n1 r1 _ => cu_p1 OA ?_))
  intro w1
  intros
  rename_i b1
  replace hV := bthen hV b1
  replace hv2 := hv2.below b1
  replace ht := ht.below b1
  replace y0 := bkeep b1 y0 rfl
  replace y1 := bkeep b1 y1 rfl
  refine n1 _ _ (pcSeq (fun Q2 n2 r2 _ => cu_p2 y0 y1 ?_))
  intros
  refine n2 _ _ (pcSeq (fun Q3 n3 r3 _ => cu_p3 y0 y1 ?_))
  intros
  clear y0 y1
  have hlo : -9223372036854775808 ≤ min x y ∧ min x y < 9223372036854775808 := by omega
  have hhi : -9223372036854775808 ≤ max x y ∧ max x y < 9223372036854775808 := by omega
  have hlh : min x y ≤ max x y := by omega
  obtain ⟨lo, elo⟩ : ∃ lo, lo = min x y := ⟨_, rfl⟩
  obtain ⟨hi, ehi⟩ : ∃ hi, hi = max x y := ⟨_, rfl⟩
  rw [← elo] at hlo hlh
  rw [← ehi] at hhi hlh
  rw [← elo, ← ehi]
  clear elo ehi
  refine n3 _ _ (pcSeq (fun Q4 n4 r4 _ => cu_p4 OF hc hlo hv2 ht ?_))
  intro N1 a1 l1 c1 ws e1 w2
  intros
  rename_i x1 q1 b2
  have v2 := balloc w2 (.cells #[.int .i64 N1, .slice a1 l1 c1] 30)
  have t2 := bthen b2 v2
  have s1 := SetVar.new w2 N1 a1 l1 c1
  replace x1 := x1.below v2
  replace hV := bthen hV t2
  replace hv2 := hv2.below t2
  replace ht := ht.below t2
  refine n4 _ _ (pcSeq (fun Q5 n5 r5 _ => cu_p5 OF hc hhi hv2 ht ?_))
  intro N2 a2 l2 c2 vs e2 w3
  intros
  rename_i x2 q2 b3
  have v3 := balloc w3 (.cells #[.int .i64 N2, .slice a2 l2 c2] 30)
  have t3 := bthen b3 v3
  have s2 := SetVar.new w3 N2 a2 l2 c2
  replace x2 := x2.below v3
  replace hV := bthen hV t3
  replace hv2 := hv2.below t3
  replace ht := ht.below t3
  replace s1 := s1.below t3
  replace x1 := x1.below t3
  refine n5 _ _ (pcSeq (fun Q6 n6 r6 _ => cu_p6 ?_ ?_))
  rotate_left
  · intros
    exact r6 _ _ (cu_ret ⟨rfl, hV⟩)
  intros
  rename_i z1 z2
  subst z1
  subst z2
  obtain ⟨hT, hA1, rfl, hs1⟩ := q1.ok
  obtain ⟨-, -, rfl, hs2⟩ := q2.ok
  have hn := hT.ids.few
  refine n6 _ _ (pcSeq (fun Q7 n7 r7 _ => cu_p8 OM (by omega) (by omega) s1 s2 x1 x2 ?_))
  intro N3 a3 l3 c3 us e3 w4
  intros
  rename_i x3 q3 b4
  obtain ⟨rfl, rfl, hno⟩ := cuts_none hlh (by omega) hs1 hs2 q3
  have v4 := balloc w4 (.cells #[.int .i64 (t.ids.length : Int), .slice a3 l3 c3] 30)
  have t4 := bthen b4 v4
  have s3 := SetVar.new w4 (t.ids.length : Int) a3 l3 c3
  replace x3 := x3.below v4
  replace hV := bthen hV t4
  replace hv2 := hv2.below t4
  replace ht := ht.below t4
  obtain ⟨k, rfl⟩ : ∃ k : Nat, col = (k : Int) := ⟨col.toNat, by have := hA1.1; omega⟩
  refine n7 _ _ (pcSeq (fun Q8 n8 r8 _ => cu_p9 OF hv2 ht hT hA1 rfl ?_))
  intro s a4 l4 c4 ls w5
  intros
  rename_i s4 x4 hs4 b5
  replace hV := bthen hV b5
  replace hv2 := hv2.below b5
  replace ht := ht.below b5
  replace s3 := s3.below b5
  replace x3 := x3.below b5
  have hall : ∀ ns, ResList (t.ids.length : Int) ls ns → ns.length = v.l0 := fun ns hl => by
    rw [← ht.ids.hlen]
    exact cuts_all hT hA1.1 hA1.2.1 (by rw [Int.toNat_natCast]) hs4 hl
  refine n8 _ _ (pcSeq (fun Q9 n9 r9 _ => cu_p10 OC (by omega) hv2 s3 s4 x3 x4 hno hall ?_))
  intro w6
  intros
  rename_i b6
  refine n9 _ _ (wp_ret ?_)
  exact cu_ret ⟨rfl, bthen hV b6⟩
end Go.Proofs.Ytaiikhbfnfcalab

/-
  The best splits: Best. Written by mk/x17.py.
-/
import Derived.Test.YtchmlfjjgehbkaaGreatX17E
import Derived.Test.YtchmlfjjgehbkaaGreatX17F
namespace Go.Proofs.YtchmlfjjgehbkaaGreat
open Go.RowKit

set_option maxRecDepth 100000 in
set_option maxHeartbeats 12800000 in
theorem xb_p0 {x1 x3 x4 x5 x6 x7 x8 x9 x10 x11 x12 x13 x14 x15 x16 x17 x18 x19 x20 x21 x22 x23 x24 x25 x26 x27 x28 x29 x30 x31 x32 x33 x34 x35 x36 x37 x38 x39 x40 x41 x42 x43 x44 x45 x46 x47 x48 x49 x50 x51 : Value} {Q : Exit → Act → World → Prop} {W : World} {l A B : Int} 
    (hN : Q .normal ⟨#[.int .i64 l, x1, .agg #[.int .i64 A, .int .i64 B], x3, .pointer (some ⟨W.heap.size, 0, none⟩), x5, .pointer (some ⟨(W.heap.size + 1), 0, none⟩), x7, .slice none 0 0, .int .i64 0, x10, x11, x12, x13, x14, x15, x16, x17, x18, x19, x20, x21, x22, x23, x24, x25, x26, x27, x28, x29, x30, x31, x32, x33, x34, x35, x36, x37, x38, x39, x40, x41, x42, x43, x44, x45, x46, x47, x48, x49, x50, x51], []⟩ ((W.alloc (.cells #[.int .i64 l] 3)).alloc (.cells #[.int .i64 A, .int .i64 B] 23))) :
    Code.wp Tryz.prog ((Tryz.f9.body.bind (pcAt 0)).getD .skip) Q ⟨#[.int .i64 l, x1, .agg #[.int .i64 A, .int .i64 B], x3, x4, x5, x6, x7, x8, x9, x10, x11, x12, x13, x14, x15, x16, x17, x18, x19, x20, x21, x22, x23, x24, x25, x26, x27, x28, x29, x30, x31, x32, x33, x34, x35, x36, x37, x38, x39, x40, x41, x42, x43, x44, x45, x46, x47, x48, x49, x50, x51], []⟩ W := by
  conv => arg 2; whnf
  have HN : Hid (Q .normal ⟨#[.int .i64 l, x1, .agg #[.int .i64 A, .int .i64 B], x3, .pointer (some ⟨W.heap.size, 0, none⟩), x5, .pointer (some ⟨(W.heap.size + 1), 0, none⟩), x7, .slice none 0 0, .int .i64 0, x10, x11, x12, x13, x14, x15, x16, x17, x18, x19, x20, x21, x22, x23, x24, x25, x26, x27, x28, x29, x30, x31, x32, x33, x34, x35, x36, x37, x38, x39, x40, x41, x42, x43, x44, x45, x46, x47, x48, x49, x50, x51], []⟩ ((W.alloc (.cells #[.int .i64 l] 3)).alloc (.cells #[.int .i64 A, .int .i64 B] 23))) := hN
  clear hN
  go_wp2_with fail
  exact HN.out   

set_option maxRecDepth 100000 in
set_option maxHeartbeats 12800000 in
theorem xb_p1 {x0 x2 x5 x7 x8 x9 x10 x11 x12 x13 x14 x15 x16 x17 x18 x19 x20 x21 x22 x23 x24 x25 x26 x27 x28 x29 x30 x31 x32 x33 x34 x35 x36 x37 x38 x39 x40 x41 x42 x43 x44 x45 x46 x47 x48 x49 x50 x51 : Value} {Q : Exit → Act → World → Prop} {W : World} {t g n c : Nat} {a : Option Addr} {l γ A B : Int} {ss : List (Int × Int)} (ht : W.cell? ⟨t, 0, none⟩ = some (.int .i64 l)) (hg : SVar W g A B) (h : SRows W a n c ss)
    (hN : ∀ (wx : World) (y8 y9 y15 y16 y17 y18 y19 y20 y21 y22 y23 y24 y25 y26 y27 y28 y29 y30 y31 y32 y33 : Value), ((0 ≤ γ ∧ γ ≤ 1048576) ∧ n ≤ 16384 ∧ LamOk l ∧ (∀ i, i < n → SumOk (ss.getD i (0, 0)).1 (ss.getD i (0, 0)).2 ∧ SumOk (A - (ss.getD i (0, 0)).1) (B - (ss.getD i (0, 0)).2)) ∧ SumOk A B) → Below W.heap.size W wx → Q .normal ⟨#[x0, .int .i64 γ, x2, .slice a n c, .pointer (some ⟨t, 0, none⟩), x5, .pointer (some ⟨g, 0, none⟩), x7, y8, y9, x10, x11, x12, x13, x14, y15, y16, y17, y18, y19, y20, y21, y22, y23, y24, y25, y26, y27, y28, y29, y30, y31, y32, y33, x34, x35, x36, x37, x38, x39, x40, x41, x42, x43, x44, x45, x46, x47, x48, x49, x50, x51], []⟩ wx)
    (hR : ∀ (wx : World) (y15 y16 y17 y18 y19 y20 y21 y22 y23 y24 y25 y26 y27 y28 y29 y30 y31 y32 y33 : Value), ¬ ((0 ≤ γ ∧ γ ≤ 1048576) ∧ n ≤ 16384 ∧ LamOk l ∧ (∀ i, i < n → SumOk (ss.getD i (0, 0)).1 (ss.getD i (0, 0)).2 ∧ SumOk (A - (ss.getD i (0, 0)).1) (B - (ss.getD i (0, 0)).2)) ∧ SumOk A B) → Below W.heap.size W wx → Q .ret ⟨#[x0, .int .i64 γ, x2, .slice a n c, .pointer (some ⟨t, 0, none⟩), x5, .pointer (some ⟨g, 0, none⟩), x7, .slice none 0 0, .int .i64 1, x10, x11, x12, x13, x14, y15, y16, y17, y18, y19, y20, y21, y22, y23, y24, y25, y26, y27, y28, y29, y30, y31, y32, y33, x34, x35, x36, x37, x38, x39, x40, x41, x42, x43, x44, x45, x46, x47, x48, x49, x50, x51], []⟩ wx) :
    Code.wp Tryz.prog ((Tryz.f9.body.bind (pcAt 1)).getD .skip) Q ⟨#[x0, .int .i64 γ, x2, .slice a n c, .pointer (some ⟨t, 0, none⟩), x5, .pointer (some ⟨g, 0, none⟩), x7, x8, x9, x10, x11, x12, x13, x14, x15, x16, x17, x18, x19, x20, x21, x22, x23, x24, x25, x26, x27, x28, x29, x30, x31, x32, x33, x34, x35, x36, x37, x38, x39, x40, x41, x42, x43, x44, x45, x46, x47, x48, x49, x50, x51], []⟩ W := by
  conv => arg 2; whnf
  have HN : Hid (∀ (wx : World) (y8 y9 y15 y16 y17 y18 y19 y20 y21 y22 y23 y24 y25 y26 y27 y28 y29 y30 y31 y32 y33 : Value), ((0 ≤ γ ∧ γ ≤ 1048576) ∧ n ≤ 16384 ∧ LamOk l ∧ (∀ i, i < n → SumOk (ss.getD i (0, 0)).1 (ss.getD i (0, 0)).2 ∧ SumOk (A - (ss.getD i (0, 0)).1) (B - (ss.getD i (0, 0)).2)) ∧ SumOk A B) → Below W.heap.size W wx → Q .normal ⟨#[x0, .int .i64 γ, x2, .slice a n c, .pointer (some ⟨t, 0, none⟩), x5, .pointer (some ⟨g, 0, none⟩), x7, y8, y9, x10, x11, x12, x13, x14, y15, y16, y17, y18, y19, y20, y21, y22, y23, y24, y25, y26, y27, y28, y29, y30, y31, y32, y33, x34, x35, x36, x37, x38, x39, x40, x41, x42, x43, x44, x45, x46, x47, x48, x49, x50, x51], []⟩ wx) := hN
  have HR : Hid (∀ (wx : World) (y15 y16 y17 y18 y19 y20 y21 y22 y23 y24 y25 y26 y27 y28 y29 y30 y31 y32 y33 : Value), ¬ ((0 ≤ γ ∧ γ ≤ 1048576) ∧ n ≤ 16384 ∧ LamOk l ∧ (∀ i, i < n → SumOk (ss.getD i (0, 0)).1 (ss.getD i (0, 0)).2 ∧ SumOk (A - (ss.getD i (0, 0)).1) (B - (ss.getD i (0, 0)).2)) ∧ SumOk A B) → Below W.heap.size W wx → Q .ret ⟨#[x0, .int .i64 γ, x2, .slice a n c, .pointer (some ⟨t, 0, none⟩), x5, .pointer (some ⟨g, 0, none⟩), x7, .slice none 0 0, .int .i64 1, x10, x11, x12, x13, x14, y15, y16, y17, y18, y19, y20, y21, y22, y23, y24, y25, y26, y27, y28, y29, y30, y31, y32, y33, x34, x35, x36, x37, x38, x39, x40, x41, x42, x43, x44, x45, x46, x47, x48, x49, x50, x51], []⟩ wx) := hR
  clear hN hR
  have hm := h.hmax
  have hcc := h.hcap
  unfold maxLen at hm
  obtain ⟨y0, y1⟩ := hg.cell
  have HC := (show Hid _ from x17from_any γ 0 1048576 W)
  have HL := (show Hid _ from x17lam_any l W)
  have HA := (show Hid _ from x17are_any A B a n c ss W h)
  obtain ⟨q, hq⟩ : ∃ q, q = inB17 0 1048576 γ := ⟨_, rfl⟩
  have HQ : Hid (q = true ↔ 0 ≤ γ ∧ γ ≤ 1048576) := by show _ ↔ _; rw [hq]; exact inB17_iff
  rw [← hq] at HC
  clear h hg hq
  go_wp2_with fail
  refine Calls.mono HC.out ?_
  rintro e w1 ⟨rfl, rfl⟩
  clear HC
  dsimp only
  cases q with
  | false =>
    have HX : Hid (¬ ((0 ≤ γ ∧ γ ≤ 1048576) ∧ n ≤ 16384 ∧ LamOk l ∧ (∀ i, i < n → SumOk (ss.getD i (0, 0)).1 (ss.getD i (0, 0)).2 ∧ SumOk (A - (ss.getD i (0, 0)).1) (B - (ss.getD i (0, 0)).2)) ∧ SumOk A B)) := fun e => absurd (HQ.out.2 e.1) (by decide)
    clear HN HL HA HQ
    go_wp2_with fail
    exact HR.out _ _ _ _ _ _ _ _ _ _ _ _ _ _ _ _ _ _ _ _ HX.out (Below.refl _ _)
  | true =>
  by_cases qn : 16384 < n
  · have dn : decide ((16384 : Int) < (n : Int)) = true := decide_eq_true (by omega)
    have HX : Hid (¬ ((0 ≤ γ ∧ γ ≤ 1048576) ∧ n ≤ 16384 ∧ LamOk l ∧ (∀ i, i < n → SumOk (ss.getD i (0, 0)).1 (ss.getD i (0, 0)).2 ∧ SumOk (A - (ss.getD i (0, 0)).1) (B - (ss.getD i (0, 0)).2)) ∧ SumOk A B)) := fun e => by have := e.2.1; omega
    clear HN HL HA HQ qn
    go_wp2_with fail
    exact HR.out _ _ _ _ _ _ _ _ _ _ _ _ _ _ _ _ _ _ _ _ HX.out (Below.refl _ _)
  have dn : decide ((16384 : Int) < (n : Int)) = false := decide_eq_false (by omega)
  have HQn : Hid ((0 ≤ γ ∧ γ ≤ 1048576) ∧ n ≤ 16384) := ⟨HQ.out.1 (by trivial), by omega⟩
  clear qn HQ
  go_wp2_with fail
  refine Calls.mono HL.out ?_
  rintro e w2 ⟨b, rfl, hb, rfl⟩
  have HB : Hid (b = true ↔ LamOk l) := hb
  clear HL hb
  dsimp only
  cases b with
  | false =>
    have HX : Hid (¬ ((0 ≤ γ ∧ γ ≤ 1048576) ∧ n ≤ 16384 ∧ LamOk l ∧ (∀ i, i < n → SumOk (ss.getD i (0, 0)).1 (ss.getD i (0, 0)).2 ∧ SumOk (A - (ss.getD i (0, 0)).1) (B - (ss.getD i (0, 0)).2)) ∧ SumOk A B)) := fun e => absurd (HB.out.2 e.2.2.1) (by decide)
    clear HN HA HB HQn
    go_wp2_with fail
    exact HR.out _ _ _ _ _ _ _ _ _ _ _ _ _ _ _ _ _ _ _ _ HX.out (Below.refl _ _)
  | true =>
  go_wp2_with fail
  refine Calls.mono HA.out ?_
  rintro e w3 ⟨d, rfl, hd, hb3⟩
  have HD : Hid ((d = true ↔ (∀ i, i < n → SumOk (ss.getD i (0, 0)).1 (ss.getD i (0, 0)).2 ∧ SumOk (A - (ss.getD i (0, 0)).1) (B - (ss.getD i (0, 0)).2)) ∧ SumOk A B) ∧ Below W.heap.size W w3 ∧ LamOk l) := ⟨hd, hb3, HB.out.1 (by trivial)⟩
  clear HA HB hd hb3 y0 y1 ht
  dsimp only
  cases d with
  | false =>
    have HX : Hid (¬ ((0 ≤ γ ∧ γ ≤ 1048576) ∧ n ≤ 16384 ∧ LamOk l ∧ (∀ i, i < n → SumOk (ss.getD i (0, 0)).1 (ss.getD i (0, 0)).2 ∧ SumOk (A - (ss.getD i (0, 0)).1) (B - (ss.getD i (0, 0)).2)) ∧ SumOk A B)) := fun e => absurd (HD.out.1.2 ⟨e.2.2.2.1, e.2.2.2.2⟩) (by decide)
    clear HN HQn
    go_wp2_with fail
    exact HR.out _ _ _ _ _ _ _ _ _ _ _ _ _ _ _ _ _ _ _ _ HX.out HD.out.2.1
  | true =>
    have HX : Hid ((0 ≤ γ ∧ γ ≤ 1048576) ∧ n ≤ 16384 ∧ LamOk l ∧ (∀ i, i < n → SumOk (ss.getD i (0, 0)).1 (ss.getD i (0, 0)).2 ∧ SumOk (A - (ss.getD i (0, 0)).1) (B - (ss.getD i (0, 0)).2)) ∧ SumOk A B) := ⟨HQn.out.1, HQn.out.2, HD.out.2.2, (HD.out.1.1 (by trivial)).1, (HD.out.1.1 (by trivial)).2⟩
    clear HR HQn
    go_wp2_with fail
    exact HN.out _ _ _ _ _ _ _ _ _ _ _ _ _ _ _ _ _ _ _ _ _ _ HX.out HD.out.2.1

set_option maxRecDepth 100000 in
set_option maxHeartbeats 12800000 in
theorem xb_p3 {x0 x2 x3 x5 x7 x8 x9 x10 x11 x12 x13 x14 x15 x16 x17 x18 x19 x20 x21 x22 x23 x24 x25 x26 x27 x28 x29 x30 x31 x32 x33 x34 x35 x36 x37 x38 x39 x40 x41 x42 x43 x44 x45 x46 x47 x48 x49 x50 x51 : Value} {Q : Exit → Act → World → Prop} {W : World} {t g : Nat} {l γ A B : Int} (ht : W.cell? ⟨t, 0, none⟩ = some (.int .i64 l)) (hg : SVar W g A B) (hP : ScoreArg l A B) (hγ : 0 ≤ γ ∧ γ ≤ 1048576)
    (hN : ∀ (m : Bool) (p : Option Addr) (k n : Nat) (p' : Option Addr) (k' n' : Nat) (s : Nat) (wx : World) (y34 y35 y36 y37 : Value), Cell3 wx s m p k n p' k' n' → FrAt17 wx m p k n p' k' n' (enoughQ l γ A B) → W.heap.size ≤ s → Below W.heap.size W wx → Q .normal ⟨#[x0, .int .i64 γ, x2, x3, .pointer (some ⟨t, 0, none⟩), x5, .pointer (some ⟨g, 0, none⟩), x7, x8, x9, .pointer (some ⟨s, 0, none⟩), x11, x12, x13, x14, x15, x16, x17, x18, x19, x20, x21, x22, x23, x24, x25, x26, x27, x28, x29, x30, x31, x32, x33, y34, y35, y36, y37, x38, x39, x40, x41, x42, x43, x44, x45, x46, x47, x48, x49, x50, x51], []⟩ wx) :
    Code.wp Tryz.prog ((Tryz.f9.body.bind (pcAt 3)).getD .skip) Q ⟨#[x0, .int .i64 γ, x2, x3, .pointer (some ⟨t, 0, none⟩), x5, .pointer (some ⟨g, 0, none⟩), x7, x8, x9, x10, x11, x12, x13, x14, x15, x16, x17, x18, x19, x20, x21, x22, x23, x24, x25, x26, x27, x28, x29, x30, x31, x32, x33, x34, x35, x36, x37, x38, x39, x40, x41, x42, x43, x44, x45, x46, x47, x48, x49, x50, x51], []⟩ W := by
  conv => arg 2; whnf
  have HN : Hid (∀ (m : Bool) (p : Option Addr) (k n : Nat) (p' : Option Addr) (k' n' : Nat) (s : Nat) (wx : World) (y34 y35 y36 y37 : Value), Cell3 wx s m p k n p' k' n' → FrAt17 wx m p k n p' k' n' (enoughQ l γ A B) → W.heap.size ≤ s → Below W.heap.size W wx → Q .normal ⟨#[x0, .int .i64 γ, x2, x3, .pointer (some ⟨t, 0, none⟩), x5, .pointer (some ⟨g, 0, none⟩), x7, x8, x9, .pointer (some ⟨s, 0, none⟩), x11, x12, x13, x14, x15, x16, x17, x18, x19, x20, x21, x22, x23, x24, x25, x26, x27, x28, x29, x30, x31, x32, x33, y34, y35, y36, y37, x38, x39, x40, x41, x42, x43, x44, x45, x46, x47, x48, x49, x50, x51], []⟩ wx) := hN
  clear hN
  obtain ⟨y0, y1⟩ := hg.cell
  have HC := (show Hid _ from x17enough_any l γ A B W hP hγ)
  clear hg hP hγ
  go_wp2_with fail
  refine Calls.mono HC.out ?_
  rintro e w1 ⟨m, p, k, n, p', k', n', rfl, hF, hb⟩
  have HK : Hid (Cell3 (w1.alloc (.cells #[.bool m, .slice p k n, .slice p' k' n'] 30)) w1.heap.size m p k n p' k' n' ∧ FrAt17 (w1.alloc (.cells #[.bool m, .slice p k n, .slice p' k' n'] 30)) m p k n p' k' n' (enoughQ l γ A B) ∧ W.heap.size ≤ w1.heap.size ∧ Below W.heap.size W (w1.alloc (.cells #[.bool m, .slice p k n, .slice p' k' n'] 30))) := ⟨Cell3.new w1 m p p' k n k' n', hF.below (balloc _ _), hb.size, bthen hb (balloc _ _)⟩
  clear HC hF hb y0 y1 ht
  dsimp only
  go_wp2_with fail
  exact HN.out _ _ _ _ _ _ _ _ _ _ _ _ _ HK.out.1 HK.out.2.1 HK.out.2.2.1 HK.out.2.2.2

set_option maxRecDepth 100000 in
set_option maxHeartbeats 12800000 in
theorem xb_p4 {x0 x1 x2 x3 x4 x5 x6 x7 x8 x9 x10 x11 x12 x13 x14 x15 x16 x17 x18 x19 x20 x21 x22 x23 x24 x25 x26 x27 x28 x29 x30 x31 x32 x33 x34 x35 x36 x37 x38 x39 x40 x41 x42 x43 x44 x45 x46 x47 x48 x49 x50 x51 : Value} {Q : Exit → Act → World → Prop} {W : World} 
    (hN : Q .normal ⟨#[x0, x1, x2, x3, x4, x5, x6, x7, x8, x9, x10, .pointer (some ⟨W.heap.size, 0, none⟩), x12, x13, x14, x15, x16, x17, x18, x19, x20, x21, x22, x23, x24, x25, x26, x27, x28, x29, x30, x31, x32, x33, x34, x35, x36, x37, x38, x39, x40, x41, x42, x43, x44, x45, x46, x47, x48, x49, x50, x51], []⟩ (W.alloc (.cells #[.slice none 0 0] 38))) :
    Code.wp Tryz.prog ((Tryz.f9.body.bind (pcAt 4)).getD .skip) Q ⟨#[x0, x1, x2, x3, x4, x5, x6, x7, x8, x9, x10, x11, x12, x13, x14, x15, x16, x17, x18, x19, x20, x21, x22, x23, x24, x25, x26, x27, x28, x29, x30, x31, x32, x33, x34, x35, x36, x37, x38, x39, x40, x41, x42, x43, x44, x45, x46, x47, x48, x49, x50, x51], []⟩ W := by
  conv => arg 2; whnf
  have HN : Hid (Q .normal ⟨#[x0, x1, x2, x3, x4, x5, x6, x7, x8, x9, x10, .pointer (some ⟨W.heap.size, 0, none⟩), x12, x13, x14, x15, x16, x17, x18, x19, x20, x21, x22, x23, x24, x25, x26, x27, x28, x29, x30, x31, x32, x33, x34, x35, x36, x37, x38, x39, x40, x41, x42, x43, x44, x45, x46, x47, x48, x49, x50, x51], []⟩ (W.alloc (.cells #[.slice none 0 0] 38))) := hN
  clear hN
  go_wp2_with fail
  exact HN.out   

set_option maxRecDepth 100000 in
set_option maxHeartbeats 12800000 in
theorem xb_p5 {x0 x1 x2 x3 x5 x7 x8 x9 x12 x13 x14 x15 x16 x17 x18 x19 x20 x21 x22 x23 x24 x25 x26 x27 x28 x29 x30 x31 x32 x33 x34 x35 x36 x37 x38 x39 x40 x41 x42 x43 x44 x45 x46 x47 x48 x49 x50 x51 : Value} {Q : Exit → Act → World → Prop} {W : World} {t g s u : Nat} 
    (hN : ∀ (y38 : Value), Q .normal ⟨#[x0, x1, x2, x3, .pointer (some ⟨t, 0, none⟩), x5, .pointer (some ⟨g, 0, none⟩), x7, x8, x9, .pointer (some ⟨s, 0, none⟩), .pointer (some ⟨u, 0, none⟩), .func (.func 27) #[] #[.pointer (some ⟨g, 0, none⟩), .pointer (some ⟨t, 0, none⟩), .pointer (some ⟨s, 0, none⟩), .pointer (some ⟨u, 0, none⟩)], x13, x14, x15, x16, x17, x18, x19, x20, x21, x22, x23, x24, x25, x26, x27, x28, x29, x30, x31, x32, x33, x34, x35, x36, x37, y38, x39, x40, x41, x42, x43, x44, x45, x46, x47, x48, x49, x50, x51], []⟩ W) :
    Code.wp Tryz.prog ((Tryz.f9.body.bind (pcAt 5)).getD .skip) Q ⟨#[x0, x1, x2, x3, .pointer (some ⟨t, 0, none⟩), x5, .pointer (some ⟨g, 0, none⟩), x7, x8, x9, .pointer (some ⟨s, 0, none⟩), .pointer (some ⟨u, 0, none⟩), x12, x13, x14, x15, x16, x17, x18, x19, x20, x21, x22, x23, x24, x25, x26, x27, x28, x29, x30, x31, x32, x33, x34, x35, x36, x37, x38, x39, x40, x41, x42, x43, x44, x45, x46, x47, x48, x49, x50, x51], []⟩ W := by
  conv => arg 2; whnf
  have HN : Hid (∀ (y38 : Value), Q .normal ⟨#[x0, x1, x2, x3, .pointer (some ⟨t, 0, none⟩), x5, .pointer (some ⟨g, 0, none⟩), x7, x8, x9, .pointer (some ⟨s, 0, none⟩), .pointer (some ⟨u, 0, none⟩), .func (.func 27) #[] #[.pointer (some ⟨g, 0, none⟩), .pointer (some ⟨t, 0, none⟩), .pointer (some ⟨s, 0, none⟩), .pointer (some ⟨u, 0, none⟩)], x13, x14, x15, x16, x17, x18, x19, x20, x21, x22, x23, x24, x25, x26, x27, x28, x29, x30, x31, x32, x33, x34, x35, x36, x37, y38, x39, x40, x41, x42, x43, x44, x45, x46, x47, x48, x49, x50, x51], []⟩ W) := hN
  clear hN
  go_wp2_with fail
  exact HN.out  _ 

set_option maxRecDepth 100000 in
set_option maxHeartbeats 12800000 in
theorem xb_t7 {x0 x1 x2 x3 x4 x5 x6 x7 x8 x9 x10 x11 x12 x13 x14 x15 x16 x17 x18 x19 x20 x21 x22 x23 x24 x25 x26 x27 x28 x29 x30 x31 x32 x33 x34 x35 x36 x37 x38 x39 x42 x43 x44 x45 x46 x47 x48 x49 x50 x51 : Value} {Q : Exit → Act → World → Prop} {W : World} {n i : Nat} 
    (hN : Q .normal ⟨#[x0, x1, x2, x3, x4, x5, x6, x7, x8, x9, x10, x11, x12, x13, x14, x15, x16, x17, x18, x19, x20, x21, x22, x23, x24, x25, x26, x27, x28, x29, x30, x31, x32, x33, x34, x35, x36, x37, x38, x39, .int .i64 (n : Int), .int .i64 (i : Int), .bool (decide (i < n)), x43, x44, x45, x46, x47, x48, x49, x50, x51], []⟩ W) :
    Code.wp Tryz.prog (((Tryz.f9.body.bind (pcLoop 0)).bind (pcAt 7)).getD .skip) Q ⟨#[x0, x1, x2, x3, x4, x5, x6, x7, x8, x9, x10, x11, x12, x13, x14, x15, x16, x17, x18, x19, x20, x21, x22, x23, x24, x25, x26, x27, x28, x29, x30, x31, x32, x33, x34, x35, x36, x37, x38, x39, .int .i64 (n : Int), .int .i64 (i : Int), x42, x43, x44, x45, x46, x47, x48, x49, x50, x51], []⟩ W := by
  conv => arg 2; whnf
  have HN : Hid (Q .normal ⟨#[x0, x1, x2, x3, x4, x5, x6, x7, x8, x9, x10, x11, x12, x13, x14, x15, x16, x17, x18, x19, x20, x21, x22, x23, x24, x25, x26, x27, x28, x29, x30, x31, x32, x33, x34, x35, x36, x37, x38, x39, .int .i64 (n : Int), .int .i64 (i : Int), .bool (decide (i < n)), x43, x44, x45, x46, x47, x48, x49, x50, x51], []⟩ W) := hN
  clear hN
  go_wp2_with fail
  exact HN.out   

set_option maxRecDepth 100000 in
set_option maxHeartbeats 12800000 in
theorem xb_t7b {x0 x1 x2 x3 x4 x5 x6 x7 x8 x9 x10 x11 x12 x13 x14 x15 x16 x17 x18 x19 x20 x21 x22 x23 x24 x25 x26 x27 x28 x29 x30 x31 x32 x33 x34 x35 x36 x37 x38 x39 x40 x41 x43 x44 x45 x46 x47 x48 x49 x50 x51 : Value} {Q : Exit → Act → World → Prop} {W : World} {d : Bool} 
    (hN : d = true → Q .normal ⟨#[x0, x1, x2, x3, x4, x5, x6, x7, x8, x9, x10, x11, x12, x13, x14, x15, x16, x17, x18, x19, x20, x21, x22, x23, x24, x25, x26, x27, x28, x29, x30, x31, x32, x33, x34, x35, x36, x37, x38, x39, x40, x41, .bool d, x43, x44, x45, x46, x47, x48, x49, x50, x51], []⟩ W)
    (hE : d = false → Q (.exit 0) ⟨#[x0, x1, x2, x3, x4, x5, x6, x7, x8, x9, x10, x11, x12, x13, x14, x15, x16, x17, x18, x19, x20, x21, x22, x23, x24, x25, x26, x27, x28, x29, x30, x31, x32, x33, x34, x35, x36, x37, x38, x39, x40, x41, .bool d, x43, x44, x45, x46, x47, x48, x49, x50, x51], []⟩ W) :
    Code.wp Tryz.prog (Code.cond (.tmp 42) .skip (.exit 0)) Q ⟨#[x0, x1, x2, x3, x4, x5, x6, x7, x8, x9, x10, x11, x12, x13, x14, x15, x16, x17, x18, x19, x20, x21, x22, x23, x24, x25, x26, x27, x28, x29, x30, x31, x32, x33, x34, x35, x36, x37, x38, x39, x40, x41, .bool d, x43, x44, x45, x46, x47, x48, x49, x50, x51], []⟩ W := by
  conv => arg 2; whnf
  have HN : Hid (d = true → Q .normal ⟨#[x0, x1, x2, x3, x4, x5, x6, x7, x8, x9, x10, x11, x12, x13, x14, x15, x16, x17, x18, x19, x20, x21, x22, x23, x24, x25, x26, x27, x28, x29, x30, x31, x32, x33, x34, x35, x36, x37, x38, x39, x40, x41, .bool d, x43, x44, x45, x46, x47, x48, x49, x50, x51], []⟩ W) := hN
  have HE : Hid (d = false → Q (.exit 0) ⟨#[x0, x1, x2, x3, x4, x5, x6, x7, x8, x9, x10, x11, x12, x13, x14, x15, x16, x17, x18, x19, x20, x21, x22, x23, x24, x25, x26, x27, x28, x29, x30, x31, x32, x33, x34, x35, x36, x37, x38, x39, x40, x41, .bool d, x43, x44, x45, x46, x47, x48, x49, x50, x51], []⟩ W) := hE
  clear hN hE
  cases d with
  | true =>
    clear HE
    go_wp2_with fail
    exact HN.out   (by trivial)
  | false =>
    clear HN
    go_wp2_with fail
    exact HE.out   (by trivial)

set_option maxRecDepth 100000 in
set_option maxHeartbeats 12800000 in
theorem xb_p8 {x0 x1 x2 x3 x4 x5 x6 x7 x8 x9 x10 x11 x12 x13 x14 x15 x16 x17 x18 x19 x20 x21 x22 x23 x24 x25 x26 x27 x28 x29 x30 x31 x32 x33 x34 x35 x36 x37 x38 x40 x42 x43 x44 x45 x46 x47 x48 x49 x50 x51 : Value} {Q : Exit → Act → World → Prop} {W : World} {b off n c i : Nat} {x y : Int} (z0 : W.cell? ⟨b, off + i * 2, none⟩ = some (.int .i64 x)) (z1 : W.cell? ⟨b, off + i * 2 + 1, none⟩ = some (.int .i64 y)) (hi : i < n)
    (hN : ∀ (y43 y44 y45 : Value), Q .normal ⟨#[x0, x1, x2, x3, x4, x5, x6, x7, x8, x9, x10, x11, x12, .int .i64 (i : Int), .pointer (some ⟨W.heap.size, 0, none⟩), x15, x16, x17, x18, x19, x20, x21, x22, x23, x24, x25, x26, x27, x28, x29, x30, x31, x32, x33, x34, x35, x36, x37, x38, .slice (some ⟨b, off, none⟩) n c, x40, .int .i64 (i : Int), x42, y43, y44, y45, x46, x47, x48, x49, x50, x51], []⟩ (W.alloc (.cells #[.int .i64 x, .int .i64 y] 23))) :
    Code.wp Tryz.prog (((Tryz.f9.body.bind (pcBlk 1)).bind (pcAt 8)).getD .skip) Q ⟨#[x0, x1, x2, x3, x4, x5, x6, x7, x8, x9, x10, x11, x12, x13, x14, x15, x16, x17, x18, x19, x20, x21, x22, x23, x24, x25, x26, x27, x28, x29, x30, x31, x32, x33, x34, x35, x36, x37, x38, .slice (some ⟨b, off, none⟩) n c, x40, .int .i64 (i : Int), x42, x43, x44, x45, x46, x47, x48, x49, x50, x51], []⟩ W := by
  conv => arg 2; whnf
  have HN : Hid (∀ (y43 y44 y45 : Value), Q .normal ⟨#[x0, x1, x2, x3, x4, x5, x6, x7, x8, x9, x10, x11, x12, .int .i64 (i : Int), .pointer (some ⟨W.heap.size, 0, none⟩), x15, x16, x17, x18, x19, x20, x21, x22, x23, x24, x25, x26, x27, x28, x29, x30, x31, x32, x33, x34, x35, x36, x37, x38, .slice (some ⟨b, off, none⟩) n c, x40, .int .i64 (i : Int), x42, y43, y44, y45, x46, x47, x48, x49, x50, x51], []⟩ (W.alloc (.cells #[.int .i64 x, .int .i64 y] 23))) := hN
  clear hN
  have hi1 : (i : Int) < (n : Int) := by omega
  have hi0 : (0 : Int) ≤ (i : Int) := by omega
  go_wp2_with fail
  exact HN.out  _ _ _ 

set_option maxRecDepth 100000 in
set_option maxHeartbeats 12800000 in
theorem xb_p9 {x0 x1 x2 x3 x4 x5 x6 x7 x8 x9 x10 x11 x15 x16 x17 x18 x19 x20 x21 x22 x23 x24 x25 x26 x27 x28 x29 x30 x31 x32 x33 x34 x35 x36 x37 x38 x39 x40 x41 x42 x43 x44 x45 x46 x47 x48 x49 x50 x51 : Value} {Q : Exit → Act → World → Prop} {W : World} {X : World} {g t s u b i : Nat} {x y : Int} {f : Nat → Option Q17} {G : Q17} (hs : SVar W b x y) (hC : ∀ _W : World, Calls Tryz.prog 27 #[.int .i64 (i : Int), .agg #[.int .i64 x, .int .i64 y], .pointer (some ⟨g, 0, none⟩), .pointer (some ⟨t, 0, none⟩), .pointer (some ⟨s, 0, none⟩), .pointer (some ⟨u, 0, none⟩)] W fun e w' => KeepT17 X s u i f G e w')
    (hN : ∀ (wx : World) (y46 y47 y48 y49 : Value), KeepT17 X s u i f G (.returned (.tuple #[])) wx → Q .normal ⟨#[x0, x1, x2, x3, x4, x5, x6, x7, x8, x9, x10, x11, .func (.func 27) #[] #[.pointer (some ⟨g, 0, none⟩), .pointer (some ⟨t, 0, none⟩), .pointer (some ⟨s, 0, none⟩), .pointer (some ⟨u, 0, none⟩)], .int .i64 (i : Int), .pointer (some ⟨b, 0, none⟩), x15, x16, x17, x18, x19, x20, x21, x22, x23, x24, x25, x26, x27, x28, x29, x30, x31, x32, x33, x34, x35, x36, x37, x38, x39, x40, x41, x42, x43, x44, x45, y46, y47, y48, y49, x50, x51], []⟩ wx) :
    Code.wp Tryz.prog (((Tryz.f9.body.bind (pcBlk 1)).bind (pcFrom 9)).getD .skip) Q ⟨#[x0, x1, x2, x3, x4, x5, x6, x7, x8, x9, x10, x11, .func (.func 27) #[] #[.pointer (some ⟨g, 0, none⟩), .pointer (some ⟨t, 0, none⟩), .pointer (some ⟨s, 0, none⟩), .pointer (some ⟨u, 0, none⟩)], .int .i64 (i : Int), .pointer (some ⟨b, 0, none⟩), x15, x16, x17, x18, x19, x20, x21, x22, x23, x24, x25, x26, x27, x28, x29, x30, x31, x32, x33, x34, x35, x36, x37, x38, x39, x40, x41, x42, x43, x44, x45, x46, x47, x48, x49, x50, x51], []⟩ W := by
  conv => arg 2; whnf
  have HN : Hid (∀ (wx : World) (y46 y47 y48 y49 : Value), KeepT17 X s u i f G (.returned (.tuple #[])) wx → Q .normal ⟨#[x0, x1, x2, x3, x4, x5, x6, x7, x8, x9, x10, x11, .func (.func 27) #[] #[.pointer (some ⟨g, 0, none⟩), .pointer (some ⟨t, 0, none⟩), .pointer (some ⟨s, 0, none⟩), .pointer (some ⟨u, 0, none⟩)], .int .i64 (i : Int), .pointer (some ⟨b, 0, none⟩), x15, x16, x17, x18, x19, x20, x21, x22, x23, x24, x25, x26, x27, x28, x29, x30, x31, x32, x33, x34, x35, x36, x37, x38, x39, x40, x41, x42, x43, x44, x45, y46, y47, y48, y49, x50, x51], []⟩ wx) := hN
  clear hN
  obtain ⟨x0, x1⟩ := hs.cell
  have HC := (show Hid _ from hC W)
  have HF := Tryz.call27
  clear hs hC
  go_wp2_with fail
  refine Calls.mono HC.out ?_
  rintro e w1 ⟨rfl, hk⟩
  have HK : Hid (KeepT17 X s u i f G (.returned (.tuple #[])) w1) := ⟨rfl, hk⟩
  clear HC hk x0 x1
  dsimp only
  go_wp2_with fail
  exact HN.out _ _ _ _ _ HK.out

set_option maxRecDepth 100000 in
set_option maxHeartbeats 12800000 in
theorem xb_p10 {x0 x1 x2 x3 x4 x5 x6 x7 x8 x9 x10 x11 x12 x13 x14 x15 x16 x17 x18 x19 x20 x21 x22 x23 x24 x25 x26 x27 x28 x29 x30 x31 x32 x33 x34 x35 x36 x37 x38 x39 x40 x42 x43 x44 x45 x46 x47 x48 x49 x50 x51 : Value} {Q : Exit → Act → World → Prop} {W : World} {i : Nat} (h : i < 9223372036854775807)
    (hN : ∀ (y50 : Value), Q .normal ⟨#[x0, x1, x2, x3, x4, x5, x6, x7, x8, x9, x10, x11, x12, x13, x14, x15, x16, x17, x18, x19, x20, x21, x22, x23, x24, x25, x26, x27, x28, x29, x30, x31, x32, x33, x34, x35, x36, x37, x38, x39, x40, .int .i64 ((i + 1 : Nat) : Int), x42, x43, x44, x45, x46, x47, x48, x49, y50, x51], []⟩ W) :
    Code.wp Tryz.prog (((Tryz.f9.body.bind (pcLoop 0)).bind (pcAt 10)).getD .skip) Q ⟨#[x0, x1, x2, x3, x4, x5, x6, x7, x8, x9, x10, x11, x12, x13, x14, x15, x16, x17, x18, x19, x20, x21, x22, x23, x24, x25, x26, x27, x28, x29, x30, x31, x32, x33, x34, x35, x36, x37, x38, x39, x40, .int .i64 (i : Int), x42, x43, x44, x45, x46, x47, x48, x49, x50, x51], []⟩ W := by
  conv => arg 2; whnf
  have HN : Hid (∀ (y50 : Value), Q .normal ⟨#[x0, x1, x2, x3, x4, x5, x6, x7, x8, x9, x10, x11, x12, x13, x14, x15, x16, x17, x18, x19, x20, x21, x22, x23, x24, x25, x26, x27, x28, x29, x30, x31, x32, x33, x34, x35, x36, x37, x38, x39, x40, .int .i64 ((i + 1 : Nat) : Int), x42, x43, x44, x45, x46, x47, x48, x49, y50, x51], []⟩ W) := hN
  clear hN
  have e : ((i + 1 : Nat) : Int) = (i : Int) + 1 := by omega
  rw [e] at HN
  go_wp2_with fail
  exact HN.out  _ 

set_option maxRecDepth 100000 in
set_option maxHeartbeats 12800000 in
theorem xb_p11 {x0 x1 x2 x3 x4 x5 x6 x7 x8 x9 x10 x12 x13 x14 x15 x16 x17 x18 x19 x20 x21 x22 x23 x24 x25 x26 x27 x28 x29 x30 x31 x32 x33 x34 x35 x36 x37 x38 x39 x40 x41 x42 x43 x44 x45 x46 x47 x48 x49 x50 x51 : Value} {Q : Exit → Act → World → Prop} {W : World} {u : Nat} {v : Value} (hu : W.cell? ⟨u, 0, none⟩ = some v)
    (hR : ∀ (y51 : Value), Q .ret ⟨#[x0, x1, x2, x3, x4, x5, x6, x7, v, .int .i64 0, x10, .pointer (some ⟨u, 0, none⟩), x12, x13, x14, x15, x16, x17, x18, x19, x20, x21, x22, x23, x24, x25, x26, x27, x28, x29, x30, x31, x32, x33, x34, x35, x36, x37, x38, x39, x40, x41, x42, x43, x44, x45, x46, x47, x48, x49, x50, y51], []⟩ W) :
    Code.wp Tryz.prog ((Tryz.f9.body.bind (pcFrom 11)).getD .skip) Q ⟨#[x0, x1, x2, x3, x4, x5, x6, x7, x8, x9, x10, .pointer (some ⟨u, 0, none⟩), x12, x13, x14, x15, x16, x17, x18, x19, x20, x21, x22, x23, x24, x25, x26, x27, x28, x29, x30, x31, x32, x33, x34, x35, x36, x37, x38, x39, x40, x41, x42, x43, x44, x45, x46, x47, x48, x49, x50, x51], []⟩ W := by
  conv => arg 2; whnf
  have HR : Hid (∀ (y51 : Value), Q .ret ⟨#[x0, x1, x2, x3, x4, x5, x6, x7, v, .int .i64 0, x10, .pointer (some ⟨u, 0, none⟩), x12, x13, x14, x15, x16, x17, x18, x19, x20, x21, x22, x23, x24, x25, x26, x27, x28, x29, x30, x31, x32, x33, x34, x35, x36, x37, x38, x39, x40, x41, x42, x43, x44, x45, x46, x47, x48, x49, x50, y51], []⟩ W) := hR
  clear hR
  go_wp2_with fail
  exact HR.out  _ 

set_option maxRecDepth 100000 in
set_option maxHeartbeats 12800000 in
theorem xb_l6 {x0 x1 x2 x4 x5 x6 x7 x8 x9 x10 x11 x13 x14 x15 x16 x17 x18 x19 x20 x21 x22 x23 x24 x25 x26 x27 x28 x29 x30 x31 x32 x33 x34 x35 x36 x37 x38 x39 x40 x41 x42 x43 x44 x45 x46 x47 x48 x49 x50 x51 : Value} {Q : Exit → Act → World → Prop} {w W : World} {t g s u n c : Nat} {a : Option Addr} {l γ A B : Int} {ss : List (Int × Int)} {m : Bool} {p : Option Addr} {k n0 : Nat} {p' : Option Addr} {k' n0' : Nat} (hg : SVar w g A B) (ht : w.cell? ⟨t, 0, none⟩ = some (.int .i64 l)) (h : SRows w a n c ss) (hP : BestArg l γ A B ss) (hw : ∀ W', Only (fun b => b = s ∨ b = u) W W' → Below w.heap.size w W') (hJ : KpAt W s u W.heap.size (enoughQ l γ A B) m p k n0 p' k' n0' (.slice none 0 0) [] W)
    (hN : ∀ (v : Value) (xs : List Int) (K : Nat) (wx : World) (y13 y14 y39 y40 y41 y42 y43 y44 y45 y46 y47 y48 y49 y50 : Value), wx.cell? ⟨u, 0, none⟩ = some v → IOwn wx K v xs → IsBest17 ss.length (fBoth17 l A B ss) (enoughQ l γ A B) xs → Below w.heap.size w wx → Q .normal ⟨#[x0, x1, x2, .slice a n c, x4, x5, x6, x7, x8, x9, x10, x11, .func (.func 27) #[] #[.pointer (some ⟨g, 0, none⟩), .pointer (some ⟨t, 0, none⟩), .pointer (some ⟨s, 0, none⟩), .pointer (some ⟨u, 0, none⟩)], y13, y14, x15, x16, x17, x18, x19, x20, x21, x22, x23, x24, x25, x26, x27, x28, x29, x30, x31, x32, x33, x34, x35, x36, x37, x38, y39, y40, y41, y42, y43, y44, y45, y46, y47, y48, y49, y50, x51], []⟩ wx) :
    Code.wp Tryz.prog ((Tryz.f9.body.bind (pcAt 6)).getD .skip) Q ⟨#[x0, x1, x2, .slice a n c, x4, x5, x6, x7, x8, x9, x10, x11, .func (.func 27) #[] #[.pointer (some ⟨g, 0, none⟩), .pointer (some ⟨t, 0, none⟩), .pointer (some ⟨s, 0, none⟩), .pointer (some ⟨u, 0, none⟩)], x13, x14, x15, x16, x17, x18, x19, x20, x21, x22, x23, x24, x25, x26, x27, x28, x29, x30, x31, x32, x33, x34, x35, x36, x37, x38, x39, x40, x41, x42, x43, x44, x45, x46, x47, x48, x49, x50, x51], []⟩ W := by
  conv => arg 2; whnf
  have HN : Hid (∀ (v : Value) (xs : List Int) (K : Nat) (wx : World) (y13 y14 y39 y40 y41 y42 y43 y44 y45 y46 y47 y48 y49 y50 : Value), wx.cell? ⟨u, 0, none⟩ = some v → IOwn wx K v xs → IsBest17 ss.length (fBoth17 l A B ss) (enoughQ l γ A B) xs → Below w.heap.size w wx → Q .normal ⟨#[x0, x1, x2, .slice a n c, x4, x5, x6, x7, x8, x9, x10, x11, .func (.func 27) #[] #[.pointer (some ⟨g, 0, none⟩), .pointer (some ⟨t, 0, none⟩), .pointer (some ⟨s, 0, none⟩), .pointer (some ⟨u, 0, none⟩)], y13, y14, x15, x16, x17, x18, x19, x20, x21, x22, x23, x24, x25, x26, x27, x28, x29, x30, x31, x32, x33, x34, x35, x36, x37, x38, y39, y40, y41, y42, y43, y44, y45, y46, y47, y48, y49, y50, x51], []⟩ wx) := hN
  clear hN
  have hm := h.hmax
  have hc := h.hcap
  have hlen := h.hlen
  unfold maxLen at hm
  have hpos := hP.pos2
  have hfew := hP.few
  refine pcSeq (fun Q1 n1 r1 _ => ?_)
  go_wp2_with fail
  refine n1 _ _ (pcBlock (fun Q2 n2 e2 r2 => ?_))
  go_loopw [41] (fun v41 wr => ∃ (i : Nat) (K : Nat) (q : Q17) (m : Bool) (p : Option Addr) (k n0 : Nat) (p' : Option Addr) (k' n0' : Nat) (v : Value) (xs : List Int), v41 = .int .i64 (i : Int) ∧ i ≤ n ∧ KpAt W s u K q m p k n0 p' k' n0' v xs wr ∧ Kept17 (fBoth17 l A B ss) (enoughQ l γ A B) i q xs ∧ Fit17 q ∧ xs.length ≤ i) (fun v41 _ => n - (intOf v41).toNat)
  case atStart => exact ⟨0, _, _, _, _, _, _, _, _, _, _, [], rfl, Nat.zero_le _, hJ, Kept17.start hpos, enough_fit17 ⟨hP.lam, hP.all⟩ hP.gam, Nat.le_refl _⟩
  case round =>
    clear hJ
    obtain ⟨i, K, q, m, p, k, n0, p', k', n0', v, xs, rfl, hi, hJ, hK, hF, hxl⟩ := hrel
    have hbw := hw _ hJ.only
    refine pcSeq (fun Q0 n0 r0 e0 => xb_t7 ?_)
    intros
    refine n0 _ _ (pcSeq (fun Q3 n3 r3 e3 => xb_t7b ?_ ?_))
    · intros
      rename_i hd
      have hlt : i < n := of_decide_eq_true hd
      have hiS : i < ss.length := by omega
      refine n3 _ _ (pcSeq (fun Q4 n4 r4 e4 => pcBlock (fun Q5 n5 e5 r5 => ?_)))
      obtain ⟨b, off, x, y, rfl, z0, z1, hxy⟩ := (h.below hbw).at hlt
      refine pcSeq (fun Q6 n6 r6 e6 => xb_p8 z0 z1 hlt ?_)
      intros
      have hba := balloc wr (.cells #[.int .i64 x, .int .i64 y] 23)
      have hs8 : SVar (wr.alloc (.cells #[.int .i64 x, .int .i64 y] 23)) wr.heap.size x y := heap_alloc_new wr _
      have hbw2 := bthen hbw hba
      refine n6 _ _ (xb_p9 hs8 (fun W' => x17keep_any (hJ.grow hba) hK hF hxl hP hiS hxy (hg.below hbw2) (bkeep hbw2 ht rfl)) ?_)
      intro w5
      intros
      rename_i hkt
      obtain ⟨-, K2, q2, m2, p2, k2, n2, p2', k2', n2', v2, xs2, hJ2, hK2, hF2, hx2⟩ := hkt
      refine n5 _ _ (n4 _ _ (xb_p10 (by omega) ?_))
      intros
      dsimp only [Exit.then]
      go_roundw
      case rel => exact ⟨i + 1, K2, q2, m2, p2, k2, n2, p2', k2', n2', v2, xs2, by go_num, hlt, hJ2, hK2, hF2, hx2⟩
      case measure => simp [intOf]; omega
    · intros
      rename_i hd
      have he : i = n := by have := of_decide_eq_false hd; omega
      subst he
      rw [← hlen] at hK
      exact e3 _ _ _ (e2 _ _ (HN.out _ _ _ _ _ _ _ _ _ _ _ _ _ _ _ _ _ _ hJ.slot hJ.own (hK.best hpos) hbw))

set_option maxRecDepth 100000 in
theorem xb_ret {x0 x1 x2 x3 x4 x5 x6 x7 x10 x11 x12 x13 x14 x15 x16 x17 x18 x19 x20 x21 x22 x23 x24 x25 x26 x27 x28 x29 x30 x31 x32 x33 x34 x35 x36 x37 x38 x39 x40 x41 x42 x43 x44 x45 x46 x47 x48 x49 x50 x51 : Value} {oa : Option Addr} {on oc : Nat} {er : Int} {post : Ending → World → Prop} {W : World} (h : post (.returned (.tuple #[.slice oa on oc, .int .i64 er])) W) : bodyPost Tryz.prog Tryz.f9 post .ret ⟨#[x0, x1, x2, x3, x4, x5, x6, x7, .slice oa on oc, .int .i64 er, x10, x11, x12, x13, x14, x15, x16, x17, x18, x19, x20, x21, x22, x23, x24, x25, x26, x27, x28, x29, x30, x31, x32, x33, x34, x35, x36, x37, x38, x39, x40, x41, x42, x43, x44, x45, x46, x47, x48, x49, x50, x51], []⟩ W :=
  bodyPost_ret (v := .tuple #[.slice oa on oc, .int .i64 er]) (by simp [results, Tryz.results9, go_sem]) rfl h

set_option maxRecDepth 100000 in
set_option maxHeartbeats 3200000 in
theorem bes_ok17 : BesOk17 := by
  intro l γ A B a n c ss w _ _ _ _ h
  have hlen := h.hlen
  have hv1 := balloc w (.cells #[.int .i64 l] 3)
  have hv2 := balloc (w.alloc (.cells #[.int .i64 l] 3)) (.cells #[.int .i64 A, .int .i64 B] 23)
  have hV := bthen hv1 hv2
  have t0 : ((w.alloc (.cells #[.int .i64 l] 3)).alloc (.cells #[.int .i64 A, .int .i64 B] 23)).cell? ⟨w.heap.size, 0, none⟩ = some (.int .i64 l) := bkeep hv2 (by simp) rfl
  have s0 : SVar ((w.alloc (.cells #[.int .i64 l] 3)).alloc (.cells #[.int .i64 A, .int .i64 B] 23)) (w.heap.size + 1) A B := by
    have := heap_alloc_new (w.alloc (.cells #[.int .i64 l] 3)) (.cells #[.int .i64 A, .int .i64 B] 23)
    simpa [SVar] using this
  have hNo : ∀ W, Below w.heap.size w W → ¬ BestArg l γ A B ss → BesT17 l γ A B ss w (.returned (.tuple #[.slice none 0 0, .int .i64 1])) W := fun W hb hn => ⟨none, 0, 0, [], 1, rfl, Lsts.nil _, .inl ⟨hn, rfl, rfl⟩, hb⟩
  go_enter Tryz.func9, Tryz.ntmps9
  refine pcSeq (fun Q0 n0 r0 _ => xb_p0 ?_)
  intros
  refine n0 _ _ (pcSeq (fun Q1 n1 r1 _ => xb_p1 t0 s0 (h.below hV) ?_ ?_))
  · intro w1
    intros
    rename_i hG hb1
    obtain ⟨hg, hn, hlam, heach, hall⟩ := hG
    have hP : BestArg l γ A B ss := ⟨hlam, hg, hall, by omega, by rw [hlen]; exact heach⟩
    have hB1 := bthen hV hb1
    refine n1 _ _ (pcSeq (fun Q3 n3 r3 _ => xb_p3 (bkeep hb1 t0 rfl) (s0.below hb1) ⟨hlam, hall⟩ hg ?_))
    intro m p k n0' p' k' n0'' s w3
    intros
    rename_i hc hf hs hb3
    refine n3 _ _ (pcSeq (fun Q4 n4 r4 _ => xb_p4 ?_))
    intros
    refine n4 _ _ (pcSeq (fun Q5 n5 r5 _ => xb_p5 ?_))
    intros
    have hb4 := balloc w3 (.cells #[.slice none 0 0] 38)
    have hu : (w3.alloc (.cells #[.slice none 0 0] 38)).cell? ⟨w3.heap.size, 0, none⟩ = some (.slice none 0 0) := by simp
    have hfu : (w3.alloc (.cells #[.slice none 0 0] 38)).frozen? ⟨w3.heap.size, 0, none⟩ = false := by simp
    have hc4 := hc.below hb4
    have hf4 := hf.below hb4
    have hslt := hc.lt
    have hlow : (∀ ad, p = some ad → 0 < k → ad.block < (w3.alloc (.cells #[.slice none 0 0] 38)).heap.size) ∧ (∀ ad, p' = some ad → 0 < k' → ad.block < (w3.alloc (.cells #[.slice none 0 0] 38)).heap.size) := by
      obtain ⟨us, vs, u1, u2, -⟩ := hf4
      exact ⟨u1.lt17, u2.lt17⟩
    have hJ : KpAt (w3.alloc (.cells #[.slice none 0 0] 38)) s w3.heap.size (w3.alloc (.cells #[.slice none 0 0] 38)).heap.size (enoughQ l γ A B) m p k n0' p' k' n0'' (.slice none 0 0) [] (w3.alloc (.cells #[.slice none 0 0] 38)) := ⟨hc4, hf4, hlow, hu, hfu, IOwn.nil _ _, ⟨Nat.le_refl _, Nat.le_refl _⟩, Only.refl _ _, hc4.lt, by simp, by omega⟩
    have hB4 := bthen hB1 (bthen hb3 hb4)
    have hW1 : w.heap.size ≤ s := Nat.le_trans hB1.size hs
    have hW3 : w.heap.size ≤ w3.heap.size := Nat.le_trans hB1.size hb3.size
    have hV0 : Below ((w.alloc (.cells #[.int .i64 l] 3)).alloc (.cells #[.int .i64 A, .int .i64 B] 23)).heap.size ((w.alloc (.cells #[.int .i64 l] 3)).alloc (.cells #[.int .i64 A, .int .i64 B] 23)) (w3.alloc (.cells #[.slice none 0 0] 38)) := bthen hb1 (bthen hb3 hb4)
    have hw : ∀ W', Only (fun b => b = s ∨ b = w3.heap.size) (w3.alloc (.cells #[.slice none 0 0] 38)) W' → Below ((w.alloc (.cells #[.int .i64 l] 3)).alloc (.cells #[.int .i64 A, .int .i64 B] 23)).heap.size ((w.alloc (.cells #[.int .i64 l] 3)).alloc (.cells #[.int .i64 A, .int .i64 B] 23)) W' := fun W' o => hV0.trans (o.below (fun b e => by
      have h1 := hb1.size
      have h3 := hb3.size
      rcases e with e | e <;> omega) hV0.size)
    refine n5 _ _ (pcSeq (fun Q6 n6 r6 _ => xb_l6 s0 t0 (h.below hV) hP hw hJ ?_))
    intro v xs K wx
    intros
    rename_i hsl hO hbest hbx
    have hbest2 := best_same17 hP hbest
    obtain ⟨oa, oc, rfl, hL, -⟩ := hO.lsts (fun x hx => by
      obtain ⟨j, rfl, h1, -⟩ := (hbest.mem x).1 hx
      have := hP.few
      omega)
    refine n6 _ _ (xb_p11 hsl ?_)
    intros
    exact xb_ret ⟨oa, _, oc, xs, 0, rfl, hL, .inr ⟨hP, rfl, hbest2⟩, bthen hV hbx⟩
  · intro w1
    intros
    rename_i hno hb1
    exact r1 _ _ (xb_ret (hNo w1 (bthen hV hb1) (fun e => hno ⟨e.gam, by have := e.few; omega, e.lam, by rw [← hlen]; exact e.each, e.all⟩)))
end Go.Proofs.YtchmlfjjgehbkaaGreat

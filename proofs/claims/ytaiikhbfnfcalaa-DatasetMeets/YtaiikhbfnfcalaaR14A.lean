/-
  The document's sets: contracts of bit, Right, Has, Same.
  The document's sets: contracts of Has, List, Count, Same.
  The document's sets: Of, its statements. Written by mk/r14of.py.
  The document's sets: Of. Written by mk/r14of.py.
  The document's sets: Of, its loop, the whole. Written by mk/r14of.py.
-/
import Derived.Test.YtaiikhbfnfcalaaB14A
import Derived.Test.YtaiikhbfnfcalaaW12B
import Derived.BigQuiet
import Derived.Test.YtaiikhbfnfcalaaPieces
import Derived.Test.YtaiikhbfnfcalaaNatB
namespace Go.Proofs.Ytaiikhbfnfcalaa
open Go.RowKit

/-- A set in memory. -/
abbrev bitsV (N : Int) (a : Option Addr) (l c : Nat) : Value := .agg #[.int .i64 N, .slice a l c]
theorem word_at {w : World} {a : Option Addr} {l c : Nat} {ws : List Int} (h : Nums w a l c ws) {q : Nat} (hq : q < l) : ∃ b off m, a = some ⟨b, off, none⟩ ∧ w.cell? ⟨b, off + q, none⟩ = some (.int .u64 ((m : Nat) : Int)) ∧ m = (ws.getD q 0).toNat ∧ m < 18446744073709551616 := by
  obtain ⟨b, off, e, hc⟩ := h.cells (by omega)
  have hx := h.word (ws[q]'(by rw [h.hlen]; exact hq)) (List.getElem_mem _)
  have e2 : ws.getD q 0 = ws[q]'(by rw [h.hlen]; exact hq) := by simp [List.getD, h.hlen, hq]
  refine ⟨b, off, (ws.getD q 0).toNat, e, ?_, rfl, by rw [e2]; omega⟩
  rw [hc q hq]
  congr 2
  rw [e2]
  omega
set_option maxRecDepth 20000 in
set_option maxHeartbeats 3200000 in
theorem r14bit_any (N : Int) (a : Option Addr) (l c : Nat) (ws : List Int) (i : Nat) (w : World) (h : Nums w a l c ws) (hi : i < 64 * l) (hi2 : i ≤ 1073741824) :
    Calls Try.prog 48 #[.agg #[.int .i64 N, .slice a l c], .int .i64 (i : Int)] w fun e w' => e = .returned (.bool (wbit ws i)) ∧ Below w.heap.size w w' := by
  obtain ⟨q, hq⟩ : ∃ q, q = i / 64 := ⟨_, rfl⟩
  obtain ⟨r, hr⟩ : ∃ r, r = i % 64 := ⟨_, rfl⟩
  have hql : q < l := by omega
  have hb := balloc w (.cells #[.int .i64 N, .slice a l c] 42)
  have hcap := h.hcap
  have hmax := h.hmax
  unfold maxLen at hmax
  obtain ⟨b, off, m, rfl, hc, hm, hlt⟩ := word_at (h.below hb) hql
  have d1 : (i : Int).tdiv 64 = (q : Int) := by rw [Int.tdiv_eq_ediv_of_nonneg (by omega)]; omega
  have d2 : (i : Int).tmod 64 = (r : Int) := by rw [Int.tmod_eq_emod_of_nonneg (by omega)]; omega
  have hqi : (q : Int) < (l : Int) := by omega
  have hq0 : (0 : Int) ≤ (q : Int) := by omega
  have hr64 : r < 64 := by omega
  obtain ⟨B, hB⟩ : ∃ B, B = wbit ws i := ⟨_, rfl⟩
  have HB : Hid (B = decide (m / 2 ^ r % 2 = 1)) := by
    show _ = _
    rw [hB]
    unfold wbit
    rw [← hq, ← hr, ← hm, testBit_div]
  have HW : Hid (Below w.heap.size w (w.alloc (.cells #[.int .i64 N, .slice (some ⟨b, off, none⟩) l c] 42))) := hb
  rw [← hB]
  clear hB hm hb h hi hq hr
  go_enter Try.func48, Try.ntmps48
  go_wp2
  go_loopw [5, 6] (fun v5 v6 wr => wr = w.alloc (.cells #[.int .i64 N, .slice (some ⟨b, off, none⟩) l c] 42) ∧ ∃ k : Nat, v6 = .int .i64 (k : Int) ∧ k ≤ r ∧ v5 = .int .u64 ((m / 2 ^ k : Nat) : Int)) (fun _ v6 _ => r - (intOf v6).toNat)
  case atStart => exact ⟨by trivial, 0, rfl, Nat.zero_le _, by simp⟩
  case round =>
    obtain ⟨rfl, k, rfl, hk, rfl⟩ := hrel
    obtain ⟨x, hx⟩ : ∃ x, x = m / 2 ^ k := ⟨_, rfl⟩
    have hxm : x ≤ m := by rw [hx]; exact Nat.div_le_self _ _
    rw [← hx]
    by_cases hlt2 : k < r
    · have hkd : decide (k < r) = true := decide_eq_true hlt2
      obtain ⟨y, hy⟩ : ∃ y, y = x / 2 := ⟨_, rfl⟩
      have e : (x : Int).tdiv 2 = (y : Int) := by rw [Int.tdiv_eq_ediv_of_nonneg (by omega)]; omega
      have HY : Hid (y = m / 2 ^ (k + 1) ∧ k < r) := ⟨by rw [hy, hx, Nat.pow_succ, Nat.div_div_eq_div_mul], hlt2⟩
      have hwr : IntKind.u64.wrap (y : Int) = (y : Int) := by simp [IntKind.wrap, IntKind.signed, IntKind.bits]; omega
      clear hx hy hlt2
      go_wp2
      go_roundw
      case rel => exact ⟨by trivial, k + 1, by go_num, HY.out.2, by rw [← HY.out.1]⟩
      case measure => have := HY.out.2; simp [intOf]; omega
    · obtain rfl : k = r := by omega
      have hkd : decide (k < k) = false := decide_eq_false (by omega)
      obtain ⟨z, hz⟩ : ∃ z, z = x % 2 := ⟨_, rfl⟩
      have e : (x : Int).tmod 2 = (z : Int) := by rw [Int.tmod_eq_emod_of_nonneg (by omega)]; omega
      have HZ : Hid (B = decide (z = 1)) := by show _ = _; rw [HB.out, hz, hx]
      have hz2 : z = 0 ∨ z = 1 := by omega
      clear hx hz hlt2 HB
      rcases hz2 with rfl | rfl
      · go_wp2
        go_ret
        exact ⟨by rw [HZ.out]; rfl, HW.out⟩
      · go_wp2
        go_ret
        exact ⟨by rw [HZ.out]; rfl, HW.out⟩
/-- Whether a set may be. -/
theorem RightS.not_len {N : Int} {ws : List Int} (h : ¬ ((ws.length : Int) = (N + 63) / 64)) : ¬ RightS N ws := fun e => h e.len
end Go.Proofs.Ytaiikhbfnfcalaa

namespace Go.Proofs.Ytaiikhbfnfcalaa
open Go.RowKit

/-- What a call that tells whether a number is in a set makes. -/
def HasT14 (N : Int) (ws : List Int) (i : Int) (w : World) (e : Ending) (w' : World) : Prop := ∃ b, e = .returned (.bool b) ∧ ResHas N ws i b ∧ Below w.heap.size w w'
set_option maxRecDepth 20000 in
set_option maxHeartbeats 3200000 in
theorem r14same_any (N M : Int) (a b : Option Addr) (la ca lb cb : Nat) (ws vs : List Int) (w : World) (hx : Nums w a la ca ws) (hy : Nums w b lb cb vs) :
    Calls Try.prog 22 #[.agg #[.int .i64 N, .slice a la ca], .agg #[.int .i64 M, .slice b lb cb]] w fun e w' => e = .returned (.bool (decide (N = M) && decide (ws = vs))) ∧ Below w.heap.size w w' := by
  have hV := bthen (balloc w (.cells #[.int .i64 N, .slice a la ca] 42)) (balloc (w.alloc (.cells #[.int .i64 N, .slice a la ca] 42)) (.cells #[.int .i64 M, .slice b lb cb] 42))
  obtain ⟨V, hVe⟩ : ∃ V, V = (w.alloc (.cells #[.int .i64 N, .slice a la ca] 42)).alloc (.cells #[.int .i64 M, .slice b lb cb] 42) := ⟨_, rfl⟩
  have HVe : Hid (V = (w.alloc (.cells #[.int .i64 N, .slice a la ca] 42)).alloc (.cells #[.int .i64 M, .slice b lb cb] 42)) := hVe
  obtain ⟨G, hG⟩ : ∃ G, G = w.heap.size := ⟨_, rfl⟩
  have HG : Hid (G = w.heap.size) := hG
  have x0 : V.cell? ⟨G, 0, none⟩ = some (.int .i64 N) := by rw [hVe, hG]; simp
  have x1 : V.cell? ⟨G, 1, none⟩ = some (.slice a la ca) := by rw [hVe, hG]; simp
  have y0 : V.cell? ⟨G + 1, 0, none⟩ = some (.int .i64 M) := by rw [hVe, hG]; simp
  have y1 : V.cell? ⟨G + 1, 1, none⟩ = some (.slice b lb cb) := by rw [hVe, hG]; simp
  rw [← hVe] at hV
  have HB : Hid (Below w.heap.size w V) := hV
  have m1 := hx.hcap
  have m2 := hx.hmax
  have m3 := hy.hcap
  have m4 := hy.hmax
  unfold maxLen at m2 m4
  have HL : Hid (ws.length = la ∧ vs.length = lb) := ⟨hx.hlen, hy.hlen⟩
  have HX : Hid (Nums V a la ca ws ∧ Nums V b lb cb vs) := ⟨hx.below hV, hy.below hV⟩
  obtain ⟨D, hD⟩ : ∃ D, D = (decide (N = M) && decide (ws = vs)) := ⟨_, rfl⟩
  have HD : Hid (D = (decide (N = M) && decide (ws = vs))) := hD
  rw [← hD]
  clear hx hy hV hVe hG hD
  go_enter Try.func22, Try.ntmps22
  go_upto_region 1 with fail
  rw [← HVe.out, ← HG.out]
  clear HVe HG
  by_cases h1 : N = M
  case neg =>
    have k1 : (N != M) = true := by simp [h1]
    have k2 : (N == M) = false := by simp [h1]
    have HF : Hid (D = false) := by show _ = _; rw [HD.out]; simp [h1]
    clear HD h1
    go_wp2
    go_ret
    exact ⟨by rw [HF.out]; rfl, HB.out⟩
  subst h1
  have k1 : (N != N) = false := by simp
  have k2 : (N == N) = true := by simp
  by_cases h2 : la = lb
  case neg =>
    have k3 : ((la : Int) != (lb : Int)) = true := by simp; omega
    have k4 : ((la : Int) == (lb : Int)) = false := by simp; omega
    have HF : Hid (D = false) := by
      show _ = _
      rw [HD.out, decide_eq_false (fun e : ws = vs => h2 (by rw [← HL.out.1, ← HL.out.2, e]))]
      simp
    clear HD h2
    go_wp2
    go_ret
    exact ⟨by rw [HF.out]; rfl, HB.out⟩
  subst h2
  have k3 : ((la : Int) != (la : Int)) = false := by simp
  go_wp2
  go_loopw [5] (fun v5 wr => ∃ k : Nat, v5 = .int .i64 (k : Int) ∧ k ≤ la ∧ Hid (∀ j, j < k → ws.getD j 0 = vs.getD j 0) ∧ Hid (Below V.heap.size V wr)) (fun v5 _ => la - (intOf v5).toNat)
  case atStart => exact ⟨0, rfl, Nat.zero_le _, fun j hj => absurd hj (Nat.not_lt_zero _), Below.refl _ _⟩
  case round =>
    obtain ⟨k, rfl, hk, HJ, HBr⟩ := hrel
    replace x1 := bkeep HBr.out x1 rfl
    replace y1 := bkeep HBr.out y1 rfl
    clear x0 y0
    by_cases hlt : k < la
    · have hlti : (k : Int) < (la : Int) := by omega
      have hk0 : (0 : Int) ≤ (k : Int) := by omega
      have hkd : decide (k < la) = true := decide_eq_true hlt
      obtain ⟨b1, o1, rfl, c1⟩ := (HX.out.1.below HBr.out).cells (by omega)
      obtain ⟨b2, o2, rfl, c2⟩ := (HX.out.2.below HBr.out).cells (by omega)
      replace c1 := c1 k hlt
      replace c2 := c2 k hlt
      obtain ⟨x, hx⟩ : ∃ x, x = ws.getD k 0 := ⟨_, rfl⟩
      obtain ⟨y, hy⟩ : ∃ y, y = vs.getD k 0 := ⟨_, rfl⟩
      rw [← hx] at c1
      rw [← hy] at c2
      have HXY : Hid (x = ws.getD k 0 ∧ y = vs.getD k 0 ∧ k < la) := ⟨hx, hy, hlt⟩
      clear hx hy hlt
      by_cases hxy : x = y
      · have q1 : (x != y) = false := by simp [hxy]
        have HJ2 : Hid (∀ j, j < k + 1 → ws.getD j 0 = vs.getD j 0) := fun j hj => by
          by_cases e : j = k
          · rw [e, ← HXY.out.1, ← HXY.out.2.1, hxy]
          · exact HJ.out j (by omega)
        clear HJ hxy
        go_wp2_with fail
        go_quiet (fail)
        go_wp2
        go_roundw
        case rel => exact ⟨k + 1, by go_num, HXY.out.2.2, HJ2.out, below_drewN HBr.out _⟩
        case measure => have := HXY.out.2.2; simp [intOf]; omega
      · have q1 : (x != y) = true := by simp [hxy]
        have HF : Hid (D = false) := by
          show _ = _
          rw [HD.out, decide_eq_false (fun e : ws = vs => hxy (by rw [HXY.out.1, HXY.out.2.1, e]))]
          simp
        clear HJ hxy
        go_wp2_with fail
        go_quiet (fail)
        go_wp2
        go_ret
        exact ⟨by rw [HF.out]; rfl, below_drewN (bthen HB.out HBr.out) _⟩
    · obtain rfl : k = la := by omega
      have hkd : decide (k < k) = false := decide_eq_false (by omega)
      have HF : Hid (D = true) := by
        show _ = _
        rw [HD.out, decide_eq_true (ext_getD (d := 0) (by rw [HL.out.1, HL.out.2]) (fun j hj => HJ.out j (by rw [← HL.out.1]; exact hj)) : ws = vs)]
        simp
      clear HJ hlt
      go_wp2
      go_ret
      exact ⟨by rw [HF.out]; rfl, bthen HB.out HBr.out⟩
end Go.Proofs.Ytaiikhbfnfcalaa

namespace Go.Proofs.Ytaiikhbfnfcalaa
open Go.RowKit

/-- Of, under way: its result's cells, the set's variable, the set's words. -/
structure OfAt (w W : World) (R s g : Nat) (n q : Nat) (ws : List Int) : Prop where
  below : Below w.heap.size w W
  r : W.heap[R]? = some (.cells #[.int .i64 0, .slice none 0 0] 42 (0, 0))
  v : W.heap[s]? = some (.cells #[.int .i64 (n : Int), .slice (some ⟨g, 0, none⟩) q q] 42 (0, 0))
  b : Blk W g ws
  len : ws.length = q
  new : w.heap.size ≤ R ∧ w.heap.size ≤ s ∧ w.heap.size ≤ g
  ne : g ≠ R ∧ g ≠ s ∧ R ≠ s
theorem Blk.lt14 {w : World} {g : Nat} {L : List Int} (h : Blk w g L) : g < w.heap.size := by
  obtain ⟨cur, h, _⟩ := h
  exact (Array.getElem?_eq_some_iff.1 h).1
theorem OfAt.grow {w W W' : World} {R s g n q : Nat} {ws : List Int} (h : OfAt w W R s g n q ws) (hb : Below W.heap.size W W') : OfAt w W' R s g n q ws := by
  have hr := (Array.getElem?_eq_some_iff.1 h.r).1
  have hv := (Array.getElem?_eq_some_iff.1 h.v).1
  refine ⟨h.below.trans (hb.mono h.below.size), (hb.block R hr).trans h.r, (hb.block s hv).trans h.v, ?_, h.len, h.new, h.ne⟩
  have hg := h.b.lt14
  obtain ⟨cur, k1, k2⟩ := h.b
  exact ⟨cur, (hb.block g hg).trans k1, k2⟩
theorem OfAt.set {w W : World} {R s g n q : Nat} {ws : List Int} (h : OfAt w W R s g n q ws) (j : Nat) (x : Int) : OfAt w (W.setCell ⟨g, j, none⟩ (.int .u64 x)) R s g n q (ws.set j x) := by
  have gr := grown_set W g j (.int .u64 x)
  have hr := (Array.getElem?_eq_some_iff.1 h.r).1
  have hv := (Array.getElem?_eq_some_iff.1 h.v).1
  exact ⟨h.below.setCell (p := ⟨g, j, none⟩) h.new.2.2 _, (gr.block R hr (fun e => h.ne.1 (Option.some.inj e).symm)).trans h.r, (gr.block s hv (fun e => h.ne.2.1 (Option.some.inj e).symm)).trans h.v, h.b.set j x, by rw [List.length_set]; exact h.len, h.new, h.ne⟩
theorem OfAt.cells {w W : World} {R s g n q : Nat} {ws : List Int} (h : OfAt w W R s g n q ws) : (W.cell? ⟨R, 0, none⟩ = some (.int .i64 0) ∧ W.cell? ⟨R, 1, none⟩ = some (.slice none 0 0) ∧ W.frozen? ⟨R, 0, none⟩ = false ∧ W.frozen? ⟨R, 1, none⟩ = false) ∧ W.cell? ⟨s, 0, none⟩ = some (.int .i64 (n : Int)) ∧ W.cell? ⟨s, 1, none⟩ = some (.slice (some ⟨g, 0, none⟩) q q) := ⟨⟨by rw [cell_of_row _ _ _ _ _ _ h.r]; rfl, by rw [cell_of_row _ _ _ _ _ _ h.r]; rfl, frozen_of_row _ _ _ _ _ h.r, frozen_of_row _ _ _ _ _ h.r⟩, by rw [cell_of_row _ _ _ _ _ _ h.v]; rfl, by rw [cell_of_row _ _ _ _ _ _ h.v]; rfl⟩
theorem put2_below {w W : World} {R : Nat} (hb : Below w.heap.size w W) (hR : w.heap.size ≤ R) (x y : Value) : Below w.heap.size w ((W.setCell ⟨R, 0, none⟩ x).setCell ⟨R, 1, none⟩ y) := (hb.setCell (p := ⟨R, 0, none⟩) hR _).setCell (p := ⟨R, 1, none⟩) hR _
/-- What a call that makes a set makes. -/
def OfT14 (n : Int) (xs : List Int) (w : World) (e : Ending) (w' : World) : Prop := ∃ N a l c ws err, e = .returned (.tuple #[.agg #[.int .i64 N, .slice a l c], .int .i64 err]) ∧ Nums w' a l c ws ∧ ResOf n xs N ws err ∧ Below w.heap.size w w'

set_option maxRecDepth 100000 in
set_option maxHeartbeats 12800000 in
theorem of_p0 {x0 x1 x2 x3 x4 x5 x6 x7 x8 x9 x10 x11 x12 x13 x14 x15 x16 x17 x18 x19 x20 x21 x22 x23 x24 x25 x26 x27 x28 x29 x30 x31 x32 x33 x34 x35 x36 x37 x38 x39 x40 x41 x42 x43 x44 x45 x46 x47 x48 x49 x50 x51 x52 x53 x54 x55 x56 x57 x58 x59 x60 x61 x62 x63 x64 x65 x66 x67 x68 x69 x70 x71 x72 x73 x74 x75 x76 x77 x78 x79 x80 x81 : Value} {Q : Exit → Act → World → Prop} {W : World} 
    (hN : Q .normal ⟨#[x0, x1, x2, x3, .pointer (some ⟨W.heap.size, 0, none⟩), .int .i64 0, x6, x7, x8, x9, x10, x11, x12, x13, x14, x15, x16, x17, x18, x19, x20, x21, x22, x23, x24, x25, x26, x27, x28, x29, x30, x31, x32, x33, x34, x35, x36, x37, x38, x39, x40, x41, x42, x43, x44, x45, x46, x47, x48, x49, x50, x51, x52, x53, x54, x55, x56, x57, x58, x59, x60, x61, x62, x63, x64, x65, x66, x67, x68, x69, x70, x71, x72, x73, x74, x75, x76, x77, x78, x79, x80, x81], []⟩ (W.alloc (.cells #[.int .i64 0, .slice none 0 0] 42))) :
    Code.wp Try.prog ((Try.f38.body.bind (pcAt 0)).getD .skip) Q ⟨#[x0, x1, x2, x3, x4, x5, x6, x7, x8, x9, x10, x11, x12, x13, x14, x15, x16, x17, x18, x19, x20, x21, x22, x23, x24, x25, x26, x27, x28, x29, x30, x31, x32, x33, x34, x35, x36, x37, x38, x39, x40, x41, x42, x43, x44, x45, x46, x47, x48, x49, x50, x51, x52, x53, x54, x55, x56, x57, x58, x59, x60, x61, x62, x63, x64, x65, x66, x67, x68, x69, x70, x71, x72, x73, x74, x75, x76, x77, x78, x79, x80, x81], []⟩ W := by
  conv => arg 2; whnf
  have HN : Hid (Q .normal ⟨#[x0, x1, x2, x3, .pointer (some ⟨W.heap.size, 0, none⟩), .int .i64 0, x6, x7, x8, x9, x10, x11, x12, x13, x14, x15, x16, x17, x18, x19, x20, x21, x22, x23, x24, x25, x26, x27, x28, x29, x30, x31, x32, x33, x34, x35, x36, x37, x38, x39, x40, x41, x42, x43, x44, x45, x46, x47, x48, x49, x50, x51, x52, x53, x54, x55, x56, x57, x58, x59, x60, x61, x62, x63, x64, x65, x66, x67, x68, x69, x70, x71, x72, x73, x74, x75, x76, x77, x78, x79, x80, x81], []⟩ (W.alloc (.cells #[.int .i64 0, .slice none 0 0] 42))) := hN
  clear hN
  go_wp2_with fail
  exact HN.out   

set_option maxRecDepth 100000 in
set_option maxHeartbeats 12800000 in
theorem of_p1 {x1 x2 x3 x5 x6 x7 x8 x9 x10 x11 x12 x13 x14 x15 x16 x17 x18 x19 x20 x21 x22 x23 x24 x25 x26 x27 x28 x29 x30 x31 x32 x33 x34 x35 x36 x37 x38 x39 x40 x41 x42 x43 x44 x45 x46 x47 x48 x49 x50 x51 x52 x53 x54 x55 x56 x57 x58 x59 x60 x61 x62 x63 x64 x65 x66 x67 x68 x69 x70 x71 x72 x73 x74 x75 x76 x77 x78 x79 x80 x81 : Value} {Q : Exit → Act → World → Prop} {W : World} {R : Nat} {n : Int} (r0 : W.cell? ⟨R, 0, none⟩ = some (.int .i64 0)) (r1 : W.cell? ⟨R, 1, none⟩ = some (.slice none 0 0)) (f0 : W.frozen? ⟨R, 0, none⟩ = false) (f1 : W.frozen? ⟨R, 1, none⟩ = false)
    (hN : ∀ (y5 y11 y12 y13 y14 y15 y16 y17 : Value), 0 ≤ n → n ≤ 65536 → Q .normal ⟨#[.int .i64 n, x1, x2, x3, .pointer (some ⟨R, 0, none⟩), y5, x6, x7, x8, x9, x10, y11, y12, y13, y14, y15, y16, y17, x18, x19, x20, x21, x22, x23, x24, x25, x26, x27, x28, x29, x30, x31, x32, x33, x34, x35, x36, x37, x38, x39, x40, x41, x42, x43, x44, x45, x46, x47, x48, x49, x50, x51, x52, x53, x54, x55, x56, x57, x58, x59, x60, x61, x62, x63, x64, x65, x66, x67, x68, x69, x70, x71, x72, x73, x74, x75, x76, x77, x78, x79, x80, x81], []⟩ W)
    (hR : ∀ (y11 y12 y13 y14 y15 y16 y17 : Value), (n < 0 ∨ 65536 < n) → Q .ret ⟨#[.int .i64 n, x1, x2, x3, .pointer (some ⟨R, 0, none⟩), .int .i64 1, x6, x7, x8, x9, x10, y11, y12, y13, y14, y15, y16, y17, x18, x19, x20, x21, x22, x23, x24, x25, x26, x27, x28, x29, x30, x31, x32, x33, x34, x35, x36, x37, x38, x39, x40, x41, x42, x43, x44, x45, x46, x47, x48, x49, x50, x51, x52, x53, x54, x55, x56, x57, x58, x59, x60, x61, x62, x63, x64, x65, x66, x67, x68, x69, x70, x71, x72, x73, x74, x75, x76, x77, x78, x79, x80, x81], []⟩ ((W.setCell ⟨R, 0, none⟩ (.int .i64 0)).setCell ⟨R, 1, none⟩ (.slice none 0 0))) :
    Code.wp Try.prog ((Try.f38.body.bind (pcAt 1)).getD .skip) Q ⟨#[.int .i64 n, x1, x2, x3, .pointer (some ⟨R, 0, none⟩), x5, x6, x7, x8, x9, x10, x11, x12, x13, x14, x15, x16, x17, x18, x19, x20, x21, x22, x23, x24, x25, x26, x27, x28, x29, x30, x31, x32, x33, x34, x35, x36, x37, x38, x39, x40, x41, x42, x43, x44, x45, x46, x47, x48, x49, x50, x51, x52, x53, x54, x55, x56, x57, x58, x59, x60, x61, x62, x63, x64, x65, x66, x67, x68, x69, x70, x71, x72, x73, x74, x75, x76, x77, x78, x79, x80, x81], []⟩ W := by
  conv => arg 2; whnf
  have HN : Hid (∀ (y5 y11 y12 y13 y14 y15 y16 y17 : Value), 0 ≤ n → n ≤ 65536 → Q .normal ⟨#[.int .i64 n, x1, x2, x3, .pointer (some ⟨R, 0, none⟩), y5, x6, x7, x8, x9, x10, y11, y12, y13, y14, y15, y16, y17, x18, x19, x20, x21, x22, x23, x24, x25, x26, x27, x28, x29, x30, x31, x32, x33, x34, x35, x36, x37, x38, x39, x40, x41, x42, x43, x44, x45, x46, x47, x48, x49, x50, x51, x52, x53, x54, x55, x56, x57, x58, x59, x60, x61, x62, x63, x64, x65, x66, x67, x68, x69, x70, x71, x72, x73, x74, x75, x76, x77, x78, x79, x80, x81], []⟩ W) := hN
  have HR : Hid (∀ (y11 y12 y13 y14 y15 y16 y17 : Value), (n < 0 ∨ 65536 < n) → Q .ret ⟨#[.int .i64 n, x1, x2, x3, .pointer (some ⟨R, 0, none⟩), .int .i64 1, x6, x7, x8, x9, x10, y11, y12, y13, y14, y15, y16, y17, x18, x19, x20, x21, x22, x23, x24, x25, x26, x27, x28, x29, x30, x31, x32, x33, x34, x35, x36, x37, x38, x39, x40, x41, x42, x43, x44, x45, x46, x47, x48, x49, x50, x51, x52, x53, x54, x55, x56, x57, x58, x59, x60, x61, x62, x63, x64, x65, x66, x67, x68, x69, x70, x71, x72, x73, x74, x75, x76, x77, x78, x79, x80, x81], []⟩ ((W.setCell ⟨R, 0, none⟩ (.int .i64 0)).setCell ⟨R, 1, none⟩ (.slice none 0 0))) := hR
  clear hN hR
  by_cases n1 : n < 0
  · have d1 : decide (n < 0) = true := decide_eq_true n1
    have HX : Hid (n < 0 ∨ 65536 < n) := .inl n1
    clear HN n1
    go_wp2_with fail
    exact HR.out  _ _ _ _ _ _ _ HX.out
  have d1 : decide (n < 0) = false := decide_eq_false n1
  by_cases n2 : 65536 < n
  · have d2 : decide (65536 < n) = true := decide_eq_true n2
    have HX : Hid (n < 0 ∨ 65536 < n) := .inr n2
    clear HN n1 n2
    go_wp2_with fail
    exact HR.out  _ _ _ _ _ _ _ HX.out
  have d2 : decide (65536 < n) = false := decide_eq_false n2
  have HX : Hid (0 ≤ n ∧ n ≤ 65536) := ⟨by omega, by omega⟩
  clear HR n1 n2
  go_wp2_with fail
  exact HN.out  _ _ _ _ _ _ _ _ HX.out.1 HX.out.2

set_option maxRecDepth 100000 in
set_option maxHeartbeats 12800000 in
theorem of_p3 {x1 x2 x3 x4 x5 x6 x7 x8 x9 x10 x11 x12 x13 x14 x15 x16 x17 x18 x19 x20 x21 x22 x23 x24 x25 x26 x27 x28 x29 x30 x31 x32 x33 x34 x35 x36 x37 x38 x39 x40 x41 x42 x43 x44 x45 x46 x47 x48 x49 x50 x51 x52 x53 x54 x55 x56 x57 x58 x59 x60 x61 x62 x63 x64 x65 x66 x67 x68 x69 x70 x71 x72 x73 x74 x75 x76 x77 x78 x79 x80 x81 : Value} {Q : Exit → Act → World → Prop} {W : World} {n : Nat} (hn : n ≤ 65536)
    (hN : ∀ (w1 : World) (y18 y19 y20 y21 y22 y23 : Value), Blk w1 W.heap.size (noughts ((n + 63) / 64)) → Below W.heap.size W w1 → w1.heap.size = W.heap.size + 1 → Q .normal ⟨#[.int .i64 (n : Int), x1, x2, x3, x4, x5, .pointer (some ⟨w1.heap.size, 0, none⟩), x7, x8, x9, x10, x11, x12, x13, x14, x15, x16, x17, y18, y19, y20, y21, y22, y23, x24, x25, x26, x27, x28, x29, x30, x31, x32, x33, x34, x35, x36, x37, x38, x39, x40, x41, x42, x43, x44, x45, x46, x47, x48, x49, x50, x51, x52, x53, x54, x55, x56, x57, x58, x59, x60, x61, x62, x63, x64, x65, x66, x67, x68, x69, x70, x71, x72, x73, x74, x75, x76, x77, x78, x79, x80, x81], []⟩ (w1.alloc (.cells #[.int .i64 (n : Int), .slice (some ⟨W.heap.size, 0, none⟩) ((n + 63) / 64) ((n + 63) / 64)] 42))) :
    Code.wp Try.prog ((Try.f38.body.bind (pcAt 3)).getD .skip) Q ⟨#[.int .i64 (n : Int), x1, x2, x3, x4, x5, x6, x7, x8, x9, x10, x11, x12, x13, x14, x15, x16, x17, x18, x19, x20, x21, x22, x23, x24, x25, x26, x27, x28, x29, x30, x31, x32, x33, x34, x35, x36, x37, x38, x39, x40, x41, x42, x43, x44, x45, x46, x47, x48, x49, x50, x51, x52, x53, x54, x55, x56, x57, x58, x59, x60, x61, x62, x63, x64, x65, x66, x67, x68, x69, x70, x71, x72, x73, x74, x75, x76, x77, x78, x79, x80, x81], []⟩ W := by
  conv => arg 2; whnf
  have HN : Hid (∀ (w1 : World) (y18 y19 y20 y21 y22 y23 : Value), Blk w1 W.heap.size (noughts ((n + 63) / 64)) → Below W.heap.size W w1 → w1.heap.size = W.heap.size + 1 → Q .normal ⟨#[.int .i64 (n : Int), x1, x2, x3, x4, x5, .pointer (some ⟨w1.heap.size, 0, none⟩), x7, x8, x9, x10, x11, x12, x13, x14, x15, x16, x17, y18, y19, y20, y21, y22, y23, x24, x25, x26, x27, x28, x29, x30, x31, x32, x33, x34, x35, x36, x37, x38, x39, x40, x41, x42, x43, x44, x45, x46, x47, x48, x49, x50, x51, x52, x53, x54, x55, x56, x57, x58, x59, x60, x61, x62, x63, x64, x65, x66, x67, x68, x69, x70, x71, x72, x73, x74, x75, x76, x77, x78, x79, x80, x81], []⟩ (w1.alloc (.cells #[.int .i64 (n : Int), .slice (some ⟨W.heap.size, 0, none⟩) ((n + 63) / 64) ((n + 63) / 64)] 42))) := hN
  clear hN
  obtain ⟨q, hq⟩ : ∃ q, q = (n + 63) / 64 := ⟨_, rfl⟩
  rw [← hq] at HN
  have e1 : ((n : Int) + 63).tdiv 64 = (q : Int) := by rw [Int.tdiv_eq_ediv_of_nonneg (by omega)]; omega
  have hq2 : q ≤ 1024 := by omega
  have hwq : RowKit.wrap64 (q : Int) = (q : Int) := by unfold RowKit.wrap64; omega
  clear hq
  go_wp2_with (at_make; refine wpList_mk _ rfl _ _ 40 rfl Try.underlying40 .i64 .i64 _ _ q rfl rfl (by first | rfl | omega | simp [hwq]) (by first | rfl | omega | simp [hwq]) (by omega) ?_)
  intro w1 k1 k2 k3
  have HT : Hid (Blk w1 W.heap.size (noughts q) ∧ Below W.heap.size W w1 ∧ w1.heap.size = W.heap.size + 1) := ⟨k1, k2, k3⟩
  clear k1 k2 k3
  go_wp2_with fail
  exact HN.out w1 _ _ _ _ _ _ HT.out.1 HT.out.2.1 HT.out.2.2

set_option maxRecDepth 100000 in
set_option maxHeartbeats 12800000 in
theorem of_t5 {x0 x2 x3 x4 x5 x6 x8 x9 x10 x11 x12 x13 x14 x15 x16 x17 x18 x19 x20 x21 x22 x23 x24 x25 x26 x27 x28 x29 x30 x31 x32 x33 x34 x35 x36 x37 x38 x39 x40 x41 x42 x43 x44 x45 x46 x47 x48 x49 x50 x51 x52 x53 x54 x55 x56 x57 x58 x59 x60 x61 x62 x63 x64 x65 x66 x67 x68 x69 x70 x71 x72 x73 x74 x75 x76 x77 x78 x79 x80 x81 : Value} {Q : Exit → Act → World → Prop} {W : World} {a : Option Addr} {len cap i : Nat} (hi : i ≤ len)
    (hN : ∀ (y24 y25 y26 y27 : Value), i < len → Q .normal ⟨#[x0, .slice a len cap, x2, x3, x4, x5, x6, .int .i64 (i : Int), x8, x9, x10, x11, x12, x13, x14, x15, x16, x17, x18, x19, x20, x21, x22, x23, y24, y25, y26, y27, x28, x29, x30, x31, x32, x33, x34, x35, x36, x37, x38, x39, x40, x41, x42, x43, x44, x45, x46, x47, x48, x49, x50, x51, x52, x53, x54, x55, x56, x57, x58, x59, x60, x61, x62, x63, x64, x65, x66, x67, x68, x69, x70, x71, x72, x73, x74, x75, x76, x77, x78, x79, x80, x81], []⟩ W)
    (hE : ∀ (y24 y25 y26 y27 : Value), i = len → Q (.exit 0) ⟨#[x0, .slice a len cap, x2, x3, x4, x5, x6, .int .i64 (i : Int), x8, x9, x10, x11, x12, x13, x14, x15, x16, x17, x18, x19, x20, x21, x22, x23, y24, y25, y26, y27, x28, x29, x30, x31, x32, x33, x34, x35, x36, x37, x38, x39, x40, x41, x42, x43, x44, x45, x46, x47, x48, x49, x50, x51, x52, x53, x54, x55, x56, x57, x58, x59, x60, x61, x62, x63, x64, x65, x66, x67, x68, x69, x70, x71, x72, x73, x74, x75, x76, x77, x78, x79, x80, x81], []⟩ W) :
    Code.wp Try.prog (((Try.f38.body.bind (pcLoop 0)).bind (pcAt 5)).getD .skip) Q ⟨#[x0, .slice a len cap, x2, x3, x4, x5, x6, .int .i64 (i : Int), x8, x9, x10, x11, x12, x13, x14, x15, x16, x17, x18, x19, x20, x21, x22, x23, x24, x25, x26, x27, x28, x29, x30, x31, x32, x33, x34, x35, x36, x37, x38, x39, x40, x41, x42, x43, x44, x45, x46, x47, x48, x49, x50, x51, x52, x53, x54, x55, x56, x57, x58, x59, x60, x61, x62, x63, x64, x65, x66, x67, x68, x69, x70, x71, x72, x73, x74, x75, x76, x77, x78, x79, x80, x81], []⟩ W := by
  conv => arg 2; whnf
  have HN : Hid (∀ (y24 y25 y26 y27 : Value), i < len → Q .normal ⟨#[x0, .slice a len cap, x2, x3, x4, x5, x6, .int .i64 (i : Int), x8, x9, x10, x11, x12, x13, x14, x15, x16, x17, x18, x19, x20, x21, x22, x23, y24, y25, y26, y27, x28, x29, x30, x31, x32, x33, x34, x35, x36, x37, x38, x39, x40, x41, x42, x43, x44, x45, x46, x47, x48, x49, x50, x51, x52, x53, x54, x55, x56, x57, x58, x59, x60, x61, x62, x63, x64, x65, x66, x67, x68, x69, x70, x71, x72, x73, x74, x75, x76, x77, x78, x79, x80, x81], []⟩ W) := hN
  have HE : Hid (∀ (y24 y25 y26 y27 : Value), i = len → Q (.exit 0) ⟨#[x0, .slice a len cap, x2, x3, x4, x5, x6, .int .i64 (i : Int), x8, x9, x10, x11, x12, x13, x14, x15, x16, x17, x18, x19, x20, x21, x22, x23, y24, y25, y26, y27, x28, x29, x30, x31, x32, x33, x34, x35, x36, x37, x38, x39, x40, x41, x42, x43, x44, x45, x46, x47, x48, x49, x50, x51, x52, x53, x54, x55, x56, x57, x58, x59, x60, x61, x62, x63, x64, x65, x66, x67, x68, x69, x70, x71, x72, x73, x74, x75, x76, x77, x78, x79, x80, x81], []⟩ W) := hE
  clear hN hE
  by_cases hlt : i < len
  · have hlti : (i : Int) < (len : Int) := by omega
    clear HE
    go_wp2_with fail
    exact HN.out  _ _ _ _ hlt
  · have hlti : decide (i < len) = false := decide_eq_false hlt
    have HE2 : Hid (i = len) := by show _ = _; omega
    clear HN hi
    go_wp2_with fail
    exact HE.out  _ _ _ _ HE2.out

set_option maxRecDepth 100000 in
set_option maxHeartbeats 12800000 in
theorem of_p7 {x2 x3 x5 x6 x8 x9 x10 x11 x12 x13 x14 x15 x16 x17 x18 x19 x20 x21 x22 x23 x24 x25 x26 x27 x28 x29 x30 x31 x32 x33 x34 x35 x36 x37 x38 x39 x40 x41 x42 x43 x44 x45 x46 x47 x48 x49 x50 x51 x52 x53 x54 x55 x56 x57 x58 x59 x60 x61 x62 x63 x64 x65 x66 x67 x68 x69 x70 x71 x72 x73 x74 x75 x76 x77 x78 x79 x80 x81 : Value} {Q : Exit → Act → World → Prop} {W : World} {R b off len cap i n : Nat} {x : Int} (hlt : i < len) (cx : W.cell? ⟨b, off + i, none⟩ = some (.int .i64 x)) (r0 : W.cell? ⟨R, 0, none⟩ = some (.int .i64 0)) (r1 : W.cell? ⟨R, 1, none⟩ = some (.slice none 0 0)) (f0 : W.frozen? ⟨R, 0, none⟩ = false) (f1 : W.frozen? ⟨R, 1, none⟩ = false)
    (hN : ∀ (y5 y30 y31 y32 y33 y34 y35 y36 y37 y38 y39 y40 y41 y42 y43 : Value), 0 ≤ x → x < n → Q .normal ⟨#[.int .i64 (n : Int), .slice (some ⟨b, off, none⟩) len cap, x2, x3, .pointer (some ⟨R, 0, none⟩), y5, x6, .int .i64 (i : Int), x8, x9, x10, x11, x12, x13, x14, x15, x16, x17, x18, x19, x20, x21, x22, x23, x24, x25, x26, x27, x28, x29, y30, y31, y32, y33, y34, y35, y36, y37, y38, y39, y40, y41, y42, y43, x44, x45, x46, x47, x48, x49, x50, x51, x52, x53, x54, x55, x56, x57, x58, x59, x60, x61, x62, x63, x64, x65, x66, x67, x68, x69, x70, x71, x72, x73, x74, x75, x76, x77, x78, x79, x80, x81], []⟩ W)
    (hR : ∀ (y30 y31 y32 y33 y34 y35 y36 y37 y38 y39 y40 y41 y42 y43 : Value), (x < 0 ∨ (n : Int) ≤ x) → Q .ret ⟨#[.int .i64 (n : Int), .slice (some ⟨b, off, none⟩) len cap, x2, x3, .pointer (some ⟨R, 0, none⟩), .int .i64 1, x6, .int .i64 (i : Int), x8, x9, x10, x11, x12, x13, x14, x15, x16, x17, x18, x19, x20, x21, x22, x23, x24, x25, x26, x27, x28, x29, y30, y31, y32, y33, y34, y35, y36, y37, y38, y39, y40, y41, y42, y43, x44, x45, x46, x47, x48, x49, x50, x51, x52, x53, x54, x55, x56, x57, x58, x59, x60, x61, x62, x63, x64, x65, x66, x67, x68, x69, x70, x71, x72, x73, x74, x75, x76, x77, x78, x79, x80, x81], []⟩ ((W.setCell ⟨R, 0, none⟩ (.int .i64 0)).setCell ⟨R, 1, none⟩ (.slice none 0 0))) :
    Code.wp Try.prog (((Try.f38.body.bind (pcBlk 1)).bind (pcAt 7)).getD .skip) Q ⟨#[.int .i64 (n : Int), .slice (some ⟨b, off, none⟩) len cap, x2, x3, .pointer (some ⟨R, 0, none⟩), x5, x6, .int .i64 (i : Int), x8, x9, x10, x11, x12, x13, x14, x15, x16, x17, x18, x19, x20, x21, x22, x23, x24, x25, x26, x27, x28, x29, x30, x31, x32, x33, x34, x35, x36, x37, x38, x39, x40, x41, x42, x43, x44, x45, x46, x47, x48, x49, x50, x51, x52, x53, x54, x55, x56, x57, x58, x59, x60, x61, x62, x63, x64, x65, x66, x67, x68, x69, x70, x71, x72, x73, x74, x75, x76, x77, x78, x79, x80, x81], []⟩ W := by
  conv => arg 2; whnf
  have HN : Hid (∀ (y5 y30 y31 y32 y33 y34 y35 y36 y37 y38 y39 y40 y41 y42 y43 : Value), 0 ≤ x → x < n → Q .normal ⟨#[.int .i64 (n : Int), .slice (some ⟨b, off, none⟩) len cap, x2, x3, .pointer (some ⟨R, 0, none⟩), y5, x6, .int .i64 (i : Int), x8, x9, x10, x11, x12, x13, x14, x15, x16, x17, x18, x19, x20, x21, x22, x23, x24, x25, x26, x27, x28, x29, y30, y31, y32, y33, y34, y35, y36, y37, y38, y39, y40, y41, y42, y43, x44, x45, x46, x47, x48, x49, x50, x51, x52, x53, x54, x55, x56, x57, x58, x59, x60, x61, x62, x63, x64, x65, x66, x67, x68, x69, x70, x71, x72, x73, x74, x75, x76, x77, x78, x79, x80, x81], []⟩ W) := hN
  have HR : Hid (∀ (y30 y31 y32 y33 y34 y35 y36 y37 y38 y39 y40 y41 y42 y43 : Value), (x < 0 ∨ (n : Int) ≤ x) → Q .ret ⟨#[.int .i64 (n : Int), .slice (some ⟨b, off, none⟩) len cap, x2, x3, .pointer (some ⟨R, 0, none⟩), .int .i64 1, x6, .int .i64 (i : Int), x8, x9, x10, x11, x12, x13, x14, x15, x16, x17, x18, x19, x20, x21, x22, x23, x24, x25, x26, x27, x28, x29, y30, y31, y32, y33, y34, y35, y36, y37, y38, y39, y40, y41, y42, y43, x44, x45, x46, x47, x48, x49, x50, x51, x52, x53, x54, x55, x56, x57, x58, x59, x60, x61, x62, x63, x64, x65, x66, x67, x68, x69, x70, x71, x72, x73, x74, x75, x76, x77, x78, x79, x80, x81], []⟩ ((W.setCell ⟨R, 0, none⟩ (.int .i64 0)).setCell ⟨R, 1, none⟩ (.slice none 0 0))) := hR
  clear hN hR
  have hlti : (i : Int) < (len : Int) := by omega
  have hi0 : (0 : Int) ≤ (i : Int) := by omega
  by_cases n1 : x < 0
  · have d1 : decide (x < 0) = true := decide_eq_true n1
    have HX : Hid (x < 0 ∨ (n : Int) ≤ x) := .inl n1
    clear HN n1
    go_wp2_with fail
    exact HR.out  _ _ _ _ _ _ _ _ _ _ _ _ _ _ HX.out
  have d1 : decide (x < 0) = false := decide_eq_false n1
  by_cases n2 : (n : Int) ≤ x
  · have d2 : decide ((n : Int) ≤ x) = true := decide_eq_true n2
    have HX : Hid (x < 0 ∨ (n : Int) ≤ x) := .inr n2
    clear HN n1 n2
    go_wp2_with fail
    exact HR.out  _ _ _ _ _ _ _ _ _ _ _ _ _ _ HX.out
  have d2 : decide ((n : Int) ≤ x) = false := decide_eq_false n2
  have HX : Hid (0 ≤ x ∧ x < n) := ⟨by omega, by omega⟩
  clear HR n1 n2
  go_wp2_with fail
  exact HN.out  _ _ _ _ _ _ _ _ _ _ _ _ _ _ _ HX.out.1 HX.out.2

set_option maxRecDepth 100000 in
set_option maxHeartbeats 12800000 in
theorem of_p9 {x0 x2 x3 x4 x5 x8 x9 x10 x11 x12 x13 x14 x15 x16 x17 x18 x19 x20 x21 x22 x23 x24 x25 x26 x27 x28 x29 x30 x31 x32 x33 x34 x35 x36 x37 x38 x39 x40 x41 x42 x43 x44 x45 x46 x47 x48 x49 x50 x51 x52 x53 x54 x55 x56 x57 x58 x59 x60 x61 x62 x63 x64 x65 x66 x67 x68 x69 x70 x71 x72 x73 x74 x75 x76 x77 x78 x79 x80 x81 : Value} {Q : Exit → Act → World → Prop} {W : World} {s g b off len cap i n q x : Nat} {ws : List Int} (hlt : i < len) (cx : W.cell? ⟨b, off + i, none⟩ = some (.int .i64 (x : Int))) (s0 : W.cell? ⟨s, 0, none⟩ = some (.int .i64 (n : Int))) (s1 : W.cell? ⟨s, 1, none⟩ = some (.slice (some ⟨g, 0, none⟩) q q)) (hN : Nums W (some ⟨g, 0, none⟩) q q ws) (hx : x < 64 * q) (hx2 : x ≤ 65536)
    (hN : ∀ (wx : World) (y44 y45 y46 y47 y48 y49 : Value), Below W.heap.size W wx → Q .normal ⟨#[x0, .slice (some ⟨b, off, none⟩) len cap, x2, x3, x4, x5, .pointer (some ⟨s, 0, none⟩), .int .i64 (i : Int), .bool (wbit ws x), x9, x10, x11, x12, x13, x14, x15, x16, x17, x18, x19, x20, x21, x22, x23, x24, x25, x26, x27, x28, x29, x30, x31, x32, x33, x34, x35, x36, x37, x38, x39, x40, x41, x42, x43, y44, y45, y46, y47, y48, y49, x50, x51, x52, x53, x54, x55, x56, x57, x58, x59, x60, x61, x62, x63, x64, x65, x66, x67, x68, x69, x70, x71, x72, x73, x74, x75, x76, x77, x78, x79, x80, x81], []⟩ wx) :
    Code.wp Try.prog (((Try.f38.body.bind (pcBlk 1)).bind (pcAt 9)).getD .skip) Q ⟨#[x0, .slice (some ⟨b, off, none⟩) len cap, x2, x3, x4, x5, .pointer (some ⟨s, 0, none⟩), .int .i64 (i : Int), x8, x9, x10, x11, x12, x13, x14, x15, x16, x17, x18, x19, x20, x21, x22, x23, x24, x25, x26, x27, x28, x29, x30, x31, x32, x33, x34, x35, x36, x37, x38, x39, x40, x41, x42, x43, x44, x45, x46, x47, x48, x49, x50, x51, x52, x53, x54, x55, x56, x57, x58, x59, x60, x61, x62, x63, x64, x65, x66, x67, x68, x69, x70, x71, x72, x73, x74, x75, x76, x77, x78, x79, x80, x81], []⟩ W := by
  conv => arg 2; whnf
  have HN : Hid (∀ (wx : World) (y44 y45 y46 y47 y48 y49 : Value), Below W.heap.size W wx → Q .normal ⟨#[x0, .slice (some ⟨b, off, none⟩) len cap, x2, x3, x4, x5, .pointer (some ⟨s, 0, none⟩), .int .i64 (i : Int), .bool (wbit ws x), x9, x10, x11, x12, x13, x14, x15, x16, x17, x18, x19, x20, x21, x22, x23, x24, x25, x26, x27, x28, x29, x30, x31, x32, x33, x34, x35, x36, x37, x38, x39, x40, x41, x42, x43, y44, y45, y46, y47, y48, y49, x50, x51, x52, x53, x54, x55, x56, x57, x58, x59, x60, x61, x62, x63, x64, x65, x66, x67, x68, x69, x70, x71, x72, x73, x74, x75, x76, x77, x78, x79, x80, x81], []⟩ wx) := hN
  clear hN
  have hlti : (i : Int) < (len : Int) := by omega
  have hi0 : (0 : Int) ≤ (i : Int) := by omega
  have HC : Hid (∀ wx : World, wx.heap = W.heap → wx.os = W.os → wx.tape = W.tape → wx.output = W.output → Calls Try.prog 48 #[.agg #[.int .i64 (n : Int), .slice (some ⟨g, 0, none⟩) q q], .int .i64 (x : Int)] wx fun e w' => e = .returned (.bool (wbit ws x)) ∧ Hid (Below W.heap.size W w')) := fun wx y1 y2 y3 y4 => by
    have hb : Below W.heap.size W wx := ⟨y2, y3, y4, by rw [y1]; exact Nat.le_refl _, fun _ _ => by rw [y1]⟩
    exact (r14bit_any (n : Int) (some ⟨g, 0, none⟩) q q ws x wx (hN.below hb) hx (by omega)).mono fun e w' h => ⟨h.1, bthen hb h.2⟩
  clear hN hx hx2
  refine wp_pcOnly ?_
  go_wp2_with fail
  go_region_with (first
    | (go_at_call 48; with_reducible refine Calls.mono (HC.out _ rfl rfl rfl rfl) ?_; rintro e w3 ⟨rfl, hZ⟩))
  all_goals
    clear HC s0 s1 cx
    go_wp2_with fail
    exact HN.out _ _ _ _ _ _ _ hZ.out

set_option maxRecDepth 100000 in
set_option maxHeartbeats 12800000 in
theorem of_p10 {x0 x1 x2 x3 x4 x5 x6 x7 x9 x10 x11 x12 x13 x14 x15 x16 x17 x18 x19 x20 x21 x22 x23 x24 x25 x26 x27 x28 x29 x30 x31 x32 x33 x34 x35 x36 x37 x38 x39 x40 x41 x42 x43 x44 x45 x46 x47 x48 x49 x50 x51 x52 x53 x54 x55 x56 x57 x58 x59 x60 x61 x62 x63 x64 x65 x66 x67 x68 x69 x70 x71 x72 x73 x74 x75 x76 x77 x78 x79 x80 x81 : Value} {Q : Exit → Act → World → Prop} {W : World} {z : Bool} 
    (hN : ∀ (y50 : Value), z = false → Q .normal ⟨#[x0, x1, x2, x3, x4, x5, x6, x7, .bool z, x9, x10, x11, x12, x13, x14, x15, x16, x17, x18, x19, x20, x21, x22, x23, x24, x25, x26, x27, x28, x29, x30, x31, x32, x33, x34, x35, x36, x37, x38, x39, x40, x41, x42, x43, x44, x45, x46, x47, x48, x49, y50, x51, x52, x53, x54, x55, x56, x57, x58, x59, x60, x61, x62, x63, x64, x65, x66, x67, x68, x69, x70, x71, x72, x73, x74, x75, x76, x77, x78, x79, x80, x81], []⟩ W)
    (hE : ∀ (y50 : Value), z = true → Q (.exit 1) ⟨#[x0, x1, x2, x3, x4, x5, x6, x7, .bool z, x9, x10, x11, x12, x13, x14, x15, x16, x17, x18, x19, x20, x21, x22, x23, x24, x25, x26, x27, x28, x29, x30, x31, x32, x33, x34, x35, x36, x37, x38, x39, x40, x41, x42, x43, x44, x45, x46, x47, x48, x49, y50, x51, x52, x53, x54, x55, x56, x57, x58, x59, x60, x61, x62, x63, x64, x65, x66, x67, x68, x69, x70, x71, x72, x73, x74, x75, x76, x77, x78, x79, x80, x81], []⟩ W) :
    Code.wp Try.prog (((Try.f38.body.bind (pcBlk 1)).bind (pcAt 10)).getD .skip) Q ⟨#[x0, x1, x2, x3, x4, x5, x6, x7, .bool z, x9, x10, x11, x12, x13, x14, x15, x16, x17, x18, x19, x20, x21, x22, x23, x24, x25, x26, x27, x28, x29, x30, x31, x32, x33, x34, x35, x36, x37, x38, x39, x40, x41, x42, x43, x44, x45, x46, x47, x48, x49, x50, x51, x52, x53, x54, x55, x56, x57, x58, x59, x60, x61, x62, x63, x64, x65, x66, x67, x68, x69, x70, x71, x72, x73, x74, x75, x76, x77, x78, x79, x80, x81], []⟩ W := by
  conv => arg 2; whnf
  have HN : Hid (∀ (y50 : Value), z = false → Q .normal ⟨#[x0, x1, x2, x3, x4, x5, x6, x7, .bool z, x9, x10, x11, x12, x13, x14, x15, x16, x17, x18, x19, x20, x21, x22, x23, x24, x25, x26, x27, x28, x29, x30, x31, x32, x33, x34, x35, x36, x37, x38, x39, x40, x41, x42, x43, x44, x45, x46, x47, x48, x49, y50, x51, x52, x53, x54, x55, x56, x57, x58, x59, x60, x61, x62, x63, x64, x65, x66, x67, x68, x69, x70, x71, x72, x73, x74, x75, x76, x77, x78, x79, x80, x81], []⟩ W) := hN
  have HE : Hid (∀ (y50 : Value), z = true → Q (.exit 1) ⟨#[x0, x1, x2, x3, x4, x5, x6, x7, .bool z, x9, x10, x11, x12, x13, x14, x15, x16, x17, x18, x19, x20, x21, x22, x23, x24, x25, x26, x27, x28, x29, x30, x31, x32, x33, x34, x35, x36, x37, x38, x39, x40, x41, x42, x43, x44, x45, x46, x47, x48, x49, y50, x51, x52, x53, x54, x55, x56, x57, x58, x59, x60, x61, x62, x63, x64, x65, x66, x67, x68, x69, x70, x71, x72, x73, x74, x75, x76, x77, x78, x79, x80, x81], []⟩ W) := hE
  clear hN hE
  cases z with
  | true =>
    clear HN
    go_wp2_with fail
    exact HE.out  _ (by trivial)
  | false =>
    clear HE
    go_wp2_with fail
    exact HN.out  _ (by trivial)

set_option maxRecDepth 100000 in
set_option maxHeartbeats 12800000 in
theorem of_p11 {x0 x1 x2 x3 x4 x5 x6 x7 x8 x9 x10 x11 x12 x13 x14 x15 x16 x17 x18 x19 x20 x21 x22 x23 x24 x25 x26 x27 x28 x29 x30 x31 x32 x33 x34 x35 x36 x37 x38 x39 x40 x41 x42 x43 x44 x45 x46 x47 x48 x49 x50 x51 x52 x53 x54 x55 x56 x57 x58 x59 x60 x61 x62 x63 x64 x65 x66 x67 x68 x69 x70 x71 x72 x73 x74 x75 x76 x77 x78 x79 x80 x81 : Value} {Q : Exit → Act → World → Prop} {W : World} 
    (hN : Q .normal ⟨#[x0, x1, x2, x3, x4, x5, x6, x7, x8, .int .u64 1, x10, x11, x12, x13, x14, x15, x16, x17, x18, x19, x20, x21, x22, x23, x24, x25, x26, x27, x28, x29, x30, x31, x32, x33, x34, x35, x36, x37, x38, x39, x40, x41, x42, x43, x44, x45, x46, x47, x48, x49, x50, x51, x52, x53, x54, x55, x56, x57, x58, x59, x60, x61, x62, x63, x64, x65, x66, x67, x68, x69, x70, x71, x72, x73, x74, x75, x76, x77, x78, x79, x80, x81], []⟩ W) :
    Code.wp Try.prog (((Try.f38.body.bind (pcBlk 1)).bind (pcAt 11)).getD .skip) Q ⟨#[x0, x1, x2, x3, x4, x5, x6, x7, x8, x9, x10, x11, x12, x13, x14, x15, x16, x17, x18, x19, x20, x21, x22, x23, x24, x25, x26, x27, x28, x29, x30, x31, x32, x33, x34, x35, x36, x37, x38, x39, x40, x41, x42, x43, x44, x45, x46, x47, x48, x49, x50, x51, x52, x53, x54, x55, x56, x57, x58, x59, x60, x61, x62, x63, x64, x65, x66, x67, x68, x69, x70, x71, x72, x73, x74, x75, x76, x77, x78, x79, x80, x81], []⟩ W := by
  conv => arg 2; whnf
  have HN : Hid (Q .normal ⟨#[x0, x1, x2, x3, x4, x5, x6, x7, x8, .int .u64 1, x10, x11, x12, x13, x14, x15, x16, x17, x18, x19, x20, x21, x22, x23, x24, x25, x26, x27, x28, x29, x30, x31, x32, x33, x34, x35, x36, x37, x38, x39, x40, x41, x42, x43, x44, x45, x46, x47, x48, x49, x50, x51, x52, x53, x54, x55, x56, x57, x58, x59, x60, x61, x62, x63, x64, x65, x66, x67, x68, x69, x70, x71, x72, x73, x74, x75, x76, x77, x78, x79, x80, x81], []⟩ W) := hN
  clear hN
  go_wp2_with fail
  exact HN.out   

set_option maxRecDepth 100000 in
set_option maxHeartbeats 12800000 in
theorem of_l2 {x0 x2 x3 x4 x5 x6 x8 x10 x11 x12 x13 x14 x15 x16 x17 x18 x19 x20 x21 x22 x23 x24 x25 x26 x27 x28 x29 x30 x31 x32 x33 x34 x35 x36 x37 x38 x39 x40 x41 x42 x43 x44 x45 x46 x47 x48 x49 x50 x51 x52 x53 x54 x55 x56 x57 x58 x59 x60 x61 x62 x63 x64 x65 x66 x67 x68 x69 x70 x71 x72 x73 x74 x75 x76 x77 x78 x79 x80 x81 : Value} {Q : Exit → Act → World → Prop} {W : World} {b off len cap i x : Nat} (hlt : i < len) (cx : W.cell? ⟨b, off + i, none⟩ = some (.int .i64 (x : Int)))
    (hN : ∀ (y10 y51 y52 y53 y54 y55 y56 y57 y58 y59 y60 y61 : Value), Q .normal ⟨#[x0, .slice (some ⟨b, off, none⟩) len cap, x2, x3, x4, x5, x6, .int .i64 (i : Int), x8, .int .u64 ((2 ^ (x % 64) : Nat) : Int), y10, x11, x12, x13, x14, x15, x16, x17, x18, x19, x20, x21, x22, x23, x24, x25, x26, x27, x28, x29, x30, x31, x32, x33, x34, x35, x36, x37, x38, x39, x40, x41, x42, x43, x44, x45, x46, x47, x48, x49, x50, y51, y52, y53, y54, y55, y56, y57, y58, y59, y60, y61, x62, x63, x64, x65, x66, x67, x68, x69, x70, x71, x72, x73, x74, x75, x76, x77, x78, x79, x80, x81], []⟩ W) :
    Code.wp Try.prog (((Try.f38.body.bind (pcBlk 1)).bind (pcAt 12)).getD .skip) Q ⟨#[x0, .slice (some ⟨b, off, none⟩) len cap, x2, x3, x4, x5, x6, .int .i64 (i : Int), x8, .int .u64 1, x10, x11, x12, x13, x14, x15, x16, x17, x18, x19, x20, x21, x22, x23, x24, x25, x26, x27, x28, x29, x30, x31, x32, x33, x34, x35, x36, x37, x38, x39, x40, x41, x42, x43, x44, x45, x46, x47, x48, x49, x50, x51, x52, x53, x54, x55, x56, x57, x58, x59, x60, x61, x62, x63, x64, x65, x66, x67, x68, x69, x70, x71, x72, x73, x74, x75, x76, x77, x78, x79, x80, x81], []⟩ W := by
  conv => arg 2; whnf
  have HN : Hid (∀ (y10 y51 y52 y53 y54 y55 y56 y57 y58 y59 y60 y61 : Value), Q .normal ⟨#[x0, .slice (some ⟨b, off, none⟩) len cap, x2, x3, x4, x5, x6, .int .i64 (i : Int), x8, .int .u64 ((2 ^ (x % 64) : Nat) : Int), y10, x11, x12, x13, x14, x15, x16, x17, x18, x19, x20, x21, x22, x23, x24, x25, x26, x27, x28, x29, x30, x31, x32, x33, x34, x35, x36, x37, x38, x39, x40, x41, x42, x43, x44, x45, x46, x47, x48, x49, x50, y51, y52, y53, y54, y55, y56, y57, y58, y59, y60, y61, x62, x63, x64, x65, x66, x67, x68, x69, x70, x71, x72, x73, x74, x75, x76, x77, x78, x79, x80, x81], []⟩ W) := hN
  clear hN
  have hlti : (i : Int) < (len : Int) := by omega
  have hi0 : (0 : Int) ≤ (i : Int) := by omega
  obtain ⟨r, hr⟩ : ∃ r, r = x % 64 := ⟨_, rfl⟩
  rw [← hr] at HN
  have d2 : (x : Int).tmod 64 = (r : Int) := by rw [Int.tmod_eq_emod_of_nonneg (by omega)]; omega
  have hr64 : r < 64 := by omega
  have hwr : RowKit.wrap64 (r : Int) = (r : Int) := by unfold RowKit.wrap64; omega
  clear hr
  refine pcSeq (fun Q1 n1 r1 _ => ?_)
  go_wp2_with fail
  refine n1 _ _ (pcBlock (fun Q2 n2 e2 r2 => ?_))
  go_loopw [9, 10] (fun v9 v10 wr => W = wr ∧ ∃ k : Nat, v10 = .int .i64 (k : Int) ∧ k ≤ r ∧ v9 = .int .u64 ((2 ^ k : Nat) : Int)) (fun _ v10 _ => r - (intOf v10).toNat)
  case atStart => exact ⟨by trivial, 0, rfl, Nat.zero_le _, rfl⟩
  case round =>
    obtain ⟨rfl, k, rfl, hk, rfl⟩ := hrel
    obtain ⟨y, hy⟩ : ∃ y, y = 2 ^ k := ⟨_, rfl⟩
    rw [← hy]
    by_cases hlt2 : k < r
    · have hkd : decide (k < r) = true := decide_eq_true hlt2
      have hy2 : y ≤ 4611686018427387904 := by
        rw [hy]
        exact (Nat.pow_le_pow_right (by decide) (by omega) : 2 ^ k ≤ 2 ^ 62)
      have HY : Hid (y * 2 = 2 ^ (k + 1) ∧ k < r) := ⟨by rw [hy, Nat.pow_succ], hlt2⟩
      obtain ⟨z, hz⟩ : ∃ z, z = y * 2 := ⟨_, rfl⟩
      have ez : (y : Int) * 2 = (z : Int) := by omega
      have hwz : IntKind.u64.wrap (z : Int) = (z : Int) := by simp [IntKind.wrap, IntKind.signed, IntKind.bits]; omega
      have HZ : Hid (z = 2 ^ (k + 1)) := by show _ = _; rw [hz]; exact HY.out.1
      clear hy hlt2 hz
      go_wp2_with fail
      go_roundw
      case rel => exact ⟨by trivial, k + 1, by go_num, HY.out.2, by rw [← HZ.out]⟩
      case measure => have := HY.out.2; simp [intOf]; omega
    · obtain rfl : k = r := by omega
      have hkd : decide (k < k) = false := decide_eq_false (by omega)
      rw [← hy] at HN
      clear hy hlt2
      go_wp2_with fail
      exact e2 _ _ (HN.out  _ _ _ _ _ _ _ _ _ _ _ _ )

end Go.Proofs.Ytaiikhbfnfcalaa

namespace Go.Proofs.Ytaiikhbfnfcalaa
open Go.RowKit

set_option maxRecDepth 100000 in
set_option maxHeartbeats 12800000 in
theorem of_p16 {x0 x2 x3 x4 x5 x8 x10 x11 x12 x13 x14 x15 x16 x17 x18 x19 x20 x21 x22 x23 x24 x25 x26 x27 x28 x29 x30 x31 x32 x33 x34 x35 x36 x37 x38 x39 x40 x41 x42 x43 x44 x45 x46 x47 x48 x49 x50 x51 x52 x53 x54 x55 x56 x57 x58 x59 x60 x61 x62 x63 x64 x65 x66 x67 x68 x69 x70 x71 x72 x73 x74 x75 x76 x77 x78 x79 x80 x81 : Value} {Q : Exit → Act → World → Prop} {W : World} {s g b off len cap i q x z m : Nat} (hlt : i < len) (cx : W.cell? ⟨b, off + i, none⟩ = some (.int .i64 (x : Int))) (s1 : W.cell? ⟨s, 1, none⟩ = some (.slice (some ⟨g, 0, none⟩) q q)) (cm : W.cell? ⟨g, x / 64, none⟩ = some (.int .u64 (m : Int))) (fm : W.frozen? ⟨g, x / 64, none⟩ = false) (hx : x / 64 < q) (hx3 : x ≤ 65536) (hm : m + z < 18446744073709551616)
    (hN : ∀ (y62 y63 y64 y65 y66 y67 y68 y69 y70 y71 y72 y73 y74 y75 y76 y77 y78 y79 y80 : Value), Q .normal ⟨#[x0, .slice (some ⟨b, off, none⟩) len cap, x2, x3, x4, x5, .pointer (some ⟨s, 0, none⟩), .int .i64 (i : Int), x8, .int .u64 (z : Int), x10, x11, x12, x13, x14, x15, x16, x17, x18, x19, x20, x21, x22, x23, x24, x25, x26, x27, x28, x29, x30, x31, x32, x33, x34, x35, x36, x37, x38, x39, x40, x41, x42, x43, x44, x45, x46, x47, x48, x49, x50, x51, x52, x53, x54, x55, x56, x57, x58, x59, x60, x61, y62, y63, y64, y65, y66, y67, y68, y69, y70, y71, y72, y73, y74, y75, y76, y77, y78, y79, y80, x81], []⟩ ((W.setCell ⟨g, x / 64, none⟩ (.int .u64 ((m + z : Nat) : Int))).drew)) :
    Code.wp Try.prog (((Try.f38.body.bind (pcBlk 1)).bind (pcAt 16)).getD .skip) Q ⟨#[x0, .slice (some ⟨b, off, none⟩) len cap, x2, x3, x4, x5, .pointer (some ⟨s, 0, none⟩), .int .i64 (i : Int), x8, .int .u64 (z : Int), x10, x11, x12, x13, x14, x15, x16, x17, x18, x19, x20, x21, x22, x23, x24, x25, x26, x27, x28, x29, x30, x31, x32, x33, x34, x35, x36, x37, x38, x39, x40, x41, x42, x43, x44, x45, x46, x47, x48, x49, x50, x51, x52, x53, x54, x55, x56, x57, x58, x59, x60, x61, x62, x63, x64, x65, x66, x67, x68, x69, x70, x71, x72, x73, x74, x75, x76, x77, x78, x79, x80, x81], []⟩ W := by
  conv => arg 2; whnf
  have HN : Hid (∀ (y62 y63 y64 y65 y66 y67 y68 y69 y70 y71 y72 y73 y74 y75 y76 y77 y78 y79 y80 : Value), Q .normal ⟨#[x0, .slice (some ⟨b, off, none⟩) len cap, x2, x3, x4, x5, .pointer (some ⟨s, 0, none⟩), .int .i64 (i : Int), x8, .int .u64 (z : Int), x10, x11, x12, x13, x14, x15, x16, x17, x18, x19, x20, x21, x22, x23, x24, x25, x26, x27, x28, x29, x30, x31, x32, x33, x34, x35, x36, x37, x38, x39, x40, x41, x42, x43, x44, x45, x46, x47, x48, x49, x50, x51, x52, x53, x54, x55, x56, x57, x58, x59, x60, x61, y62, y63, y64, y65, y66, y67, y68, y69, y70, y71, y72, y73, y74, y75, y76, y77, y78, y79, y80, x81], []⟩ ((W.setCell ⟨g, x / 64, none⟩ (.int .u64 ((m + z : Nat) : Int))).drew)) := hN
  clear hN
  have hlti : (i : Int) < (len : Int) := by omega
  have hi0 : (0 : Int) ≤ (i : Int) := by omega
  obtain ⟨p, hp⟩ : ∃ p, p = x / 64 := ⟨_, rfl⟩
  rw [← hp] at HN cm fm hx
  have d1 : (x : Int).tdiv 64 = (p : Int) := by rw [Int.tdiv_eq_ediv_of_nonneg (by omega)]; omega
  have hpi : (p : Int) < (q : Int) := by omega
  have hp0 : (0 : Int) ≤ (p : Int) := by omega
  have hp3 : p ≤ 1024 := by omega
  have hwp : RowKit.wrap64 (p : Int) = (p : Int) := by unfold RowKit.wrap64; omega
  have hwi : IntKind.i64.wrap (p : Int) = (p : Int) := by simp [IntKind.wrap, IntKind.signed, IntKind.bits]; omega
  obtain ⟨y, hy⟩ : ∃ y, y = m + z := ⟨_, rfl⟩
  rw [← hy] at HN
  have ey : (m : Int) + (z : Int) = (y : Int) := by omega
  have hwy : IntKind.u64.wrap (y : Int) = (y : Int) := by simp [IntKind.wrap, IntKind.signed, IntKind.bits]; omega
  clear hp hy hx
  refine wp_pcOnly ?_
  go_wp2_with fail
  go_region_with (fail)
  all_goals
    exact HN.out  _ _ _ _ _ _ _ _ _ _ _ _ _ _ _ _ _ _ _ 

end Go.Proofs.Ytaiikhbfnfcalaa

namespace Go.Proofs.Ytaiikhbfnfcalaa
open Go.RowKit

theorem inList_snoc (l : List Int) (x i : Nat) : inList (l ++ [(x : Int)]) i = (inList l i || decide (i = x)) := by
  have e : decide ((i : Int) = (x : Int)) = decide (i = x) := by
    by_cases c : i = x
    · simp [c]
    · rw [decide_eq_false c, decide_eq_false (by omega)]
  unfold inList
  rw [← e]
  simp
theorem take_snoc14 {xs : List Int} {i : Nat} (hi : i < xs.length) : xs.take (i + 1) = xs.take i ++ [xs.getD i 0] := by
  rw [List.take_add_one]
  simp [List.getD, hi]
theorem blk_word {w : World} {g : Nat} {ws : List Int} (h : Blk w g ws) {q : Nat} (hq : q < ws.length) (hd : Digs 18446744073709551616 ws) : w.cell? ⟨g, q, none⟩ = some (.int .u64 (((ws.getD q 0).toNat : Nat) : Int)) := by
  rw [h.cell hq]
  have := hd ws[q] (List.getElem_mem hq)
  have e : ws.getD q 0 = ws[q] := by simp [List.getD, hq]
  congr 2
  rw [e]
  omega
theorem blk_thaw {w : World} {g : Nat} {ws : List Int} (h : Blk w g ws) (j : Nat) : w.frozen? ⟨g, j, none⟩ = false := by
  obtain ⟨cur, h, _⟩ := h
  exact frozen_of_row _ _ _ _ _ h
theorem IsSet.again {n : Nat} {l : List Int} {ws : List Int} (h : IsSet n (inList l) ws) {x : Nat} (hx : x < n) (ht : wbit ws x = true) : IsSet n (inList (l ++ [(x : Int)])) ws := h.congr (fun i hi => by
  rw [inList_snoc]
  by_cases e : i = x
  · subst e
    rw [← h.at hi, ht]
    rfl
  · simp [e])

set_option maxRecDepth 100000 in
set_option maxHeartbeats 12800000 in
theorem of_p6 {x0 x1 x2 x3 x4 x5 x6 x8 x9 x10 x11 x12 x13 x14 x15 x16 x17 x18 x19 x20 x21 x22 x23 x24 x25 x26 x27 x28 x29 x30 x31 x32 x33 x34 x35 x36 x37 x38 x39 x40 x41 x42 x43 x44 x45 x46 x47 x48 x49 x50 x51 x52 x53 x54 x55 x56 x57 x58 x59 x60 x61 x62 x63 x64 x65 x66 x67 x68 x69 x70 x71 x72 x73 x74 x75 x76 x77 x78 x79 x80 x81 : Value} {Q : Exit → Act → World → Prop} {W : World} {i : Nat} (hi : i < 17592186044416)
    (hN : ∀ (y28 y29 : Value), Q .normal ⟨#[x0, x1, x2, x3, x4, x5, x6, .int .i64 ((i + 1 : Nat) : Int), x8, x9, x10, x11, x12, x13, x14, x15, x16, x17, x18, x19, x20, x21, x22, x23, x24, x25, x26, x27, y28, y29, x30, x31, x32, x33, x34, x35, x36, x37, x38, x39, x40, x41, x42, x43, x44, x45, x46, x47, x48, x49, x50, x51, x52, x53, x54, x55, x56, x57, x58, x59, x60, x61, x62, x63, x64, x65, x66, x67, x68, x69, x70, x71, x72, x73, x74, x75, x76, x77, x78, x79, x80, x81], []⟩ W) :
    Code.wp Try.prog (((Try.f38.body.bind (pcLoop 0)).bind (pcAt 6)).getD .skip) Q ⟨#[x0, x1, x2, x3, x4, x5, x6, .int .i64 (i : Int), x8, x9, x10, x11, x12, x13, x14, x15, x16, x17, x18, x19, x20, x21, x22, x23, x24, x25, x26, x27, x28, x29, x30, x31, x32, x33, x34, x35, x36, x37, x38, x39, x40, x41, x42, x43, x44, x45, x46, x47, x48, x49, x50, x51, x52, x53, x54, x55, x56, x57, x58, x59, x60, x61, x62, x63, x64, x65, x66, x67, x68, x69, x70, x71, x72, x73, x74, x75, x76, x77, x78, x79, x80, x81], []⟩ W := by
  conv => arg 2; whnf
  have HN : Hid (∀ (y28 y29 : Value), Q .normal ⟨#[x0, x1, x2, x3, x4, x5, x6, .int .i64 ((i + 1 : Nat) : Int), x8, x9, x10, x11, x12, x13, x14, x15, x16, x17, x18, x19, x20, x21, x22, x23, x24, x25, x26, x27, y28, y29, x30, x31, x32, x33, x34, x35, x36, x37, x38, x39, x40, x41, x42, x43, x44, x45, x46, x47, x48, x49, x50, x51, x52, x53, x54, x55, x56, x57, x58, x59, x60, x61, x62, x63, x64, x65, x66, x67, x68, x69, x70, x71, x72, x73, x74, x75, x76, x77, x78, x79, x80, x81], []⟩ W) := hN
  clear hN
  have e : ((i + 1 : Nat) : Int) = (i : Int) + 1 := by omega
  rw [e] at HN
  go_wp2_with fail
  exact HN.out  _ _ 

set_option maxRecDepth 100000 in
set_option maxHeartbeats 12800000 in
theorem of_p17 {x0 x1 x2 x3 x5 x7 x8 x9 x10 x11 x12 x13 x14 x15 x16 x17 x18 x19 x20 x21 x22 x23 x24 x25 x26 x27 x28 x29 x30 x31 x32 x33 x34 x35 x36 x37 x38 x39 x40 x41 x42 x43 x44 x45 x46 x47 x48 x49 x50 x51 x52 x53 x54 x55 x56 x57 x58 x59 x60 x61 x62 x63 x64 x65 x66 x67 x68 x69 x70 x71 x72 x73 x74 x75 x76 x77 x78 x79 x80 x81 : Value} {Q : Exit → Act → World → Prop} {W : World} {R s g n q : Nat} (r0 : W.cell? ⟨R, 0, none⟩ = some (.int .i64 0)) (r1 : W.cell? ⟨R, 1, none⟩ = some (.slice none 0 0)) (f0 : W.frozen? ⟨R, 0, none⟩ = false) (f1 : W.frozen? ⟨R, 1, none⟩ = false) (s0 : W.cell? ⟨s, 0, none⟩ = some (.int .i64 (n : Int))) (s1 : W.cell? ⟨s, 1, none⟩ = some (.slice (some ⟨g, 0, none⟩) q q))
    (hR : ∀ (y81 : Value), Q .ret ⟨#[x0, x1, x2, x3, .pointer (some ⟨R, 0, none⟩), .int .i64 0, .pointer (some ⟨s, 0, none⟩), x7, x8, x9, x10, x11, x12, x13, x14, x15, x16, x17, x18, x19, x20, x21, x22, x23, x24, x25, x26, x27, x28, x29, x30, x31, x32, x33, x34, x35, x36, x37, x38, x39, x40, x41, x42, x43, x44, x45, x46, x47, x48, x49, x50, x51, x52, x53, x54, x55, x56, x57, x58, x59, x60, x61, x62, x63, x64, x65, x66, x67, x68, x69, x70, x71, x72, x73, x74, x75, x76, x77, x78, x79, x80, y81], []⟩ ((W.setCell ⟨R, 0, none⟩ (.int .i64 (n : Int))).setCell ⟨R, 1, none⟩ (.slice (some ⟨g, 0, none⟩) q q))) :
    Code.wp Try.prog ((Try.f38.body.bind (pcFrom 17)).getD .skip) Q ⟨#[x0, x1, x2, x3, .pointer (some ⟨R, 0, none⟩), x5, .pointer (some ⟨s, 0, none⟩), x7, x8, x9, x10, x11, x12, x13, x14, x15, x16, x17, x18, x19, x20, x21, x22, x23, x24, x25, x26, x27, x28, x29, x30, x31, x32, x33, x34, x35, x36, x37, x38, x39, x40, x41, x42, x43, x44, x45, x46, x47, x48, x49, x50, x51, x52, x53, x54, x55, x56, x57, x58, x59, x60, x61, x62, x63, x64, x65, x66, x67, x68, x69, x70, x71, x72, x73, x74, x75, x76, x77, x78, x79, x80, x81], []⟩ W := by
  conv => arg 2; whnf
  have HR : Hid (∀ (y81 : Value), Q .ret ⟨#[x0, x1, x2, x3, .pointer (some ⟨R, 0, none⟩), .int .i64 0, .pointer (some ⟨s, 0, none⟩), x7, x8, x9, x10, x11, x12, x13, x14, x15, x16, x17, x18, x19, x20, x21, x22, x23, x24, x25, x26, x27, x28, x29, x30, x31, x32, x33, x34, x35, x36, x37, x38, x39, x40, x41, x42, x43, x44, x45, x46, x47, x48, x49, x50, x51, x52, x53, x54, x55, x56, x57, x58, x59, x60, x61, x62, x63, x64, x65, x66, x67, x68, x69, x70, x71, x72, x73, x74, x75, x76, x77, x78, x79, x80, y81], []⟩ ((W.setCell ⟨R, 0, none⟩ (.int .i64 (n : Int))).setCell ⟨R, 1, none⟩ (.slice (some ⟨g, 0, none⟩) q q))) := hR
  clear hR
  go_wp2_with fail
  exact HR.out  _ 

set_option maxRecDepth 100000 in
set_option maxHeartbeats 12800000 in
theorem of_l1 {x2 x3 x5 x7 x8 x9 x10 x11 x12 x13 x14 x15 x16 x17 x18 x19 x20 x21 x22 x23 x24 x25 x26 x27 x28 x29 x30 x31 x32 x33 x34 x35 x36 x37 x38 x39 x40 x41 x42 x43 x44 x45 x46 x47 x48 x49 x50 x51 x52 x53 x54 x55 x56 x57 x58 x59 x60 x61 x62 x63 x64 x65 x66 x67 x68 x69 x70 x71 x72 x73 x74 x75 x76 x77 x78 x79 x80 x81 : Value} {Q : Exit → Act → World → Prop} {w W : World} {R s g n q len cap : Nat} {a : Option Addr} {xs ws0 : List Int} (hL : Lsts w a len cap xs) (hlen : len ≤ 17592186044416) (hn : n ≤ 65536) (h : OfAt w W R s g n q ws0) (hs : IsSet n (inList []) ws0)
    (hN : ∀ (ws : List Int) (wx : World) (y5 y7 y8 y9 y10 y24 y25 y26 y27 y28 y29 y30 y31 y32 y33 y34 y35 y36 y37 y38 y39 y40 y41 y42 y43 y44 y45 y46 y47 y48 y49 y50 y51 y52 y53 y54 y55 y56 y57 y58 y59 y60 y61 y62 y63 y64 y65 y66 y67 y68 y69 y70 y71 y72 y73 y74 y75 y76 y77 y78 y79 y80 : Value), OfAt w wx R s g n q ws → IsSet n (inList xs) ws → (∀ x, x ∈ xs → 0 ≤ x ∧ x < (n : Int)) → Q .normal ⟨#[.int .i64 (n : Int), .slice a len cap, x2, x3, .pointer (some ⟨R, 0, none⟩), y5, .pointer (some ⟨s, 0, none⟩), y7, y8, y9, y10, x11, x12, x13, x14, x15, x16, x17, x18, x19, x20, x21, x22, x23, y24, y25, y26, y27, y28, y29, y30, y31, y32, y33, y34, y35, y36, y37, y38, y39, y40, y41, y42, y43, y44, y45, y46, y47, y48, y49, y50, y51, y52, y53, y54, y55, y56, y57, y58, y59, y60, y61, y62, y63, y64, y65, y66, y67, y68, y69, y70, y71, y72, y73, y74, y75, y76, y77, y78, y79, y80, x81], []⟩ wx)
    (hR : ∀ (wx : World) (y7 y8 y9 y10 y24 y25 y26 y27 y28 y29 y30 y31 y32 y33 y34 y35 y36 y37 y38 y39 y40 y41 y42 y43 y44 y45 y46 y47 y48 y49 y50 y51 y52 y53 y54 y55 y56 y57 y58 y59 y60 y61 y62 y63 y64 y65 y66 y67 y68 y69 y70 y71 y72 y73 y74 y75 y76 y77 y78 y79 y80 : Value), (∃ x, x ∈ xs ∧ (x < 0 ∨ (n : Int) ≤ x)) → Below w.heap.size w wx → ((wx.setCell ⟨R, 0, none⟩ (.int .i64 0)).setCell ⟨R, 1, none⟩ (.slice none 0 0)).cell? ⟨R, 0, none⟩ = some (.int .i64 0) → ((wx.setCell ⟨R, 0, none⟩ (.int .i64 0)).setCell ⟨R, 1, none⟩ (.slice none 0 0)).cell? ⟨R, 1, none⟩ = some (.slice none 0 0) → Q .ret ⟨#[.int .i64 (n : Int), .slice a len cap, x2, x3, .pointer (some ⟨R, 0, none⟩), .int .i64 1, .pointer (some ⟨s, 0, none⟩), y7, y8, y9, y10, x11, x12, x13, x14, x15, x16, x17, x18, x19, x20, x21, x22, x23, y24, y25, y26, y27, y28, y29, y30, y31, y32, y33, y34, y35, y36, y37, y38, y39, y40, y41, y42, y43, y44, y45, y46, y47, y48, y49, y50, y51, y52, y53, y54, y55, y56, y57, y58, y59, y60, y61, y62, y63, y64, y65, y66, y67, y68, y69, y70, y71, y72, y73, y74, y75, y76, y77, y78, y79, y80, x81], []⟩ ((wx.setCell ⟨R, 0, none⟩ (.int .i64 0)).setCell ⟨R, 1, none⟩ (.slice none 0 0))) :
    Code.wp Try.prog ((Try.f38.body.bind (pcAt 4)).getD .skip) Q ⟨#[.int .i64 (n : Int), .slice a len cap, x2, x3, .pointer (some ⟨R, 0, none⟩), x5, .pointer (some ⟨s, 0, none⟩), x7, x8, x9, x10, x11, x12, x13, x14, x15, x16, x17, x18, x19, x20, x21, x22, x23, x24, x25, x26, x27, x28, x29, x30, x31, x32, x33, x34, x35, x36, x37, x38, x39, x40, x41, x42, x43, x44, x45, x46, x47, x48, x49, x50, x51, x52, x53, x54, x55, x56, x57, x58, x59, x60, x61, x62, x63, x64, x65, x66, x67, x68, x69, x70, x71, x72, x73, x74, x75, x76, x77, x78, x79, x80, x81], []⟩ W := by
  conv => arg 2; whnf
  have HN : Hid (∀ (ws : List Int) (wx : World) (y5 y7 y8 y9 y10 y24 y25 y26 y27 y28 y29 y30 y31 y32 y33 y34 y35 y36 y37 y38 y39 y40 y41 y42 y43 y44 y45 y46 y47 y48 y49 y50 y51 y52 y53 y54 y55 y56 y57 y58 y59 y60 y61 y62 y63 y64 y65 y66 y67 y68 y69 y70 y71 y72 y73 y74 y75 y76 y77 y78 y79 y80 : Value), OfAt w wx R s g n q ws → IsSet n (inList xs) ws → (∀ x, x ∈ xs → 0 ≤ x ∧ x < (n : Int)) → Q .normal ⟨#[.int .i64 (n : Int), .slice a len cap, x2, x3, .pointer (some ⟨R, 0, none⟩), y5, .pointer (some ⟨s, 0, none⟩), y7, y8, y9, y10, x11, x12, x13, x14, x15, x16, x17, x18, x19, x20, x21, x22, x23, y24, y25, y26, y27, y28, y29, y30, y31, y32, y33, y34, y35, y36, y37, y38, y39, y40, y41, y42, y43, y44, y45, y46, y47, y48, y49, y50, y51, y52, y53, y54, y55, y56, y57, y58, y59, y60, y61, y62, y63, y64, y65, y66, y67, y68, y69, y70, y71, y72, y73, y74, y75, y76, y77, y78, y79, y80, x81], []⟩ wx) := hN
  have HR : Hid (∀ (wx : World) (y7 y8 y9 y10 y24 y25 y26 y27 y28 y29 y30 y31 y32 y33 y34 y35 y36 y37 y38 y39 y40 y41 y42 y43 y44 y45 y46 y47 y48 y49 y50 y51 y52 y53 y54 y55 y56 y57 y58 y59 y60 y61 y62 y63 y64 y65 y66 y67 y68 y69 y70 y71 y72 y73 y74 y75 y76 y77 y78 y79 y80 : Value), (∃ x, x ∈ xs ∧ (x < 0 ∨ (n : Int) ≤ x)) → Below w.heap.size w wx → ((wx.setCell ⟨R, 0, none⟩ (.int .i64 0)).setCell ⟨R, 1, none⟩ (.slice none 0 0)).cell? ⟨R, 0, none⟩ = some (.int .i64 0) → ((wx.setCell ⟨R, 0, none⟩ (.int .i64 0)).setCell ⟨R, 1, none⟩ (.slice none 0 0)).cell? ⟨R, 1, none⟩ = some (.slice none 0 0) → Q .ret ⟨#[.int .i64 (n : Int), .slice a len cap, x2, x3, .pointer (some ⟨R, 0, none⟩), .int .i64 1, .pointer (some ⟨s, 0, none⟩), y7, y8, y9, y10, x11, x12, x13, x14, x15, x16, x17, x18, x19, x20, x21, x22, x23, y24, y25, y26, y27, y28, y29, y30, y31, y32, y33, y34, y35, y36, y37, y38, y39, y40, y41, y42, y43, y44, y45, y46, y47, y48, y49, y50, y51, y52, y53, y54, y55, y56, y57, y58, y59, y60, y61, y62, y63, y64, y65, y66, y67, y68, y69, y70, y71, y72, y73, y74, y75, y76, y77, y78, y79, y80, x81], []⟩ ((wx.setCell ⟨R, 0, none⟩ (.int .i64 0)).setCell ⟨R, 1, none⟩ (.slice none 0 0))) := hR
  clear hN hR
  have hxl := hL.hlen
  refine pcSeq (fun Q1 n1 r1 _ => ?_)
  go_wp2_with fail
  refine n1 _ _ (pcBlock (fun Q2 n2 e2 r2 => ?_))
  go_loopw [7] (fun v7 wr => ∃ (i : Nat) (ws : List Int), v7 = .int .i64 (i : Int) ∧ i ≤ len ∧ OfAt w wr R s g n q ws ∧ IsSet n (inList (xs.take i)) ws ∧ ∀ x, x ∈ xs.take i → 0 ≤ x ∧ x < (n : Int)) (fun v7 _ => len - (intOf v7).toNat)
  case atStart => exact ⟨0, ws0, rfl, Nat.zero_le _, h, hs, fun x hx => by cases hx⟩
  case round =>
    clear h hs
    obtain ⟨i, ws, rfl, hi, h, hs, hall⟩ := hrel
    have hql : q = (n + 63) / 64 := by rw [← h.len]; exact hs.len
    refine pcSeq (fun Q3 n3 r3 e3 => of_t5 hi ?_ ?_)
    · intros
      rename_i hlt
      refine n3 _ _ (pcSeq (fun Q4 n4 r4 e4 => pcBlock (fun Q5 n5 e5 r5 => ?_)))
      obtain ⟨⟨c0, c1, c2, c3⟩, c4, c5⟩ := h.cells
      obtain ⟨b, off, rfl, hc⟩ := (hL.below h.below).cells (by omega)
      have cx := hc i hlt
      have hmem : xs.getD i 0 ∈ xs := by rw [show xs.getD i 0 = xs[i]'(by omega) by simp [List.getD, hxl, hlt]]; exact List.getElem_mem _
      have htk := take_snoc14 (xs := xs) (i := i) (by omega)
      refine pcSeq (fun Q6 n6 r6 e6 => of_p7 hlt cx c0 c1 c2 c3 ?_ ?_)
      · intros
        rename_i hx0 hxn
        obtain ⟨x, hx⟩ : ∃ x : Nat, xs.getD i 0 = (x : Int) := ⟨(xs.getD i 0).toNat, by omega⟩
        rw [hx] at cx hx0 hxn htk
        have hxn2 : x < n := by omega
        have hN := h.b.nums hs.dig h.len (by omega)
        have hall2 : ∀ y, y ∈ xs.take (i + 1) → 0 ≤ y ∧ y < (n : Int) := fun y hy => by
          rw [htk] at hy
          rcases List.mem_append.1 hy with r | r
          · exact hall y r
          · simp at r
            omega
        refine n6 _ _ (pcSeq (fun Q7 n7 r7 e7 => of_p9 hlt cx c4 c5 hN (by omega) (by omega) ?_))
        intro w1
        intros
        rename_i hb1
        have h1 := h.grow hb1
        refine n7 _ _ (pcSeq (fun Q8 n8 r8 e8 => of_p10 ?_ ?_))
        · intros
          rename_i hf
          obtain ⟨hlt64, hmore⟩ := hs.more hxn2 hf
          obtain ⟨-, d4, d5⟩ := h1.cells
          obtain ⟨b', off', e', hc'⟩ := (hL.below h1.below).cells (by omega)
          cases e'
          have cx1 := hc' i hlt
          rw [hx] at cx1
          refine n8 _ _ (pcSeq (fun Q9 n9 r9 e9 => of_p11 ?_))
          refine n9 _ _ (pcSeq (fun Q10 n10 r10 e10 => of_l2 hlt cx1 ?_))
          intros
          refine n10 _ _ (of_p16 hlt cx1 d5 (blk_word h1.b (by rw [h1.len]; omega) hs.dig) (blk_thaw h1.b _) (by omega) (by omega) hlt64 ?_)
          intros
          have h2 := (h1.set (x / 64) (((ws.getD (x / 64) 0).toNat + 2 ^ (x % 64) : Nat) : Int)).grow (bdr12 (Below.refl _ _))
          refine n5 _ _ (n4 _ _ (of_p6 (by omega) ?_))
          intros
          dsimp only [Exit.then]
          go_roundw
          case rel => exact ⟨i + 1, _, rfl, by omega, h2, by rw [htk]; exact hmore.congr (fun j _ => (inList_snoc _ _ _).symm), hall2⟩
          case measure => simp [intOf]; omega
        · intros
          rename_i ht
          refine e8 _ _ _ (e5 _ _ (n4 _ _ (of_p6 (by omega) ?_)))
          intros
          dsimp only [Exit.then]
          go_roundw
          case rel => exact ⟨i + 1, ws, rfl, by omega, h1, by rw [htk]; exact hs.again hxn2 ht, hall2⟩
          case measure => simp [intOf]; omega
      · intros
        rename_i hbad
        have k1 := heap_setCell_same wr R 0 _ _ (.int .i64 0) h.r
        have k2 := heap_setCell_same _ R 1 _ _ (.slice none 0 0) k1
        have y0 : ((wr.setCell ⟨R, 0, none⟩ (.int .i64 0)).setCell ⟨R, 1, none⟩ (.slice none 0 0)).cell? ⟨R, 0, none⟩ = some (.int .i64 0) := by rw [cell_of_row _ _ _ _ _ _ k2]; rfl
        have y1 : ((wr.setCell ⟨R, 0, none⟩ (.int .i64 0)).setCell ⟨R, 1, none⟩ (.slice none 0 0)).cell? ⟨R, 1, none⟩ = some (.slice none 0 0) := by rw [cell_of_row _ _ _ _ _ _ k2]; rfl
        have hex : ∃ x, x ∈ xs ∧ (x < 0 ∨ (n : Int) ≤ x) := ⟨_, hmem, hbad⟩
        exact r6 _ _ (r5 _ _ (r4 _ _ (r2 _ _ (HR.out _ _ _ _ _ _ _ _ _ _ _ _ _ _ _ _ _ _ _ _ _ _ _ _ _ _ _ _ _ _ _ _ _ _ _ _ _ _ _ _ _ _ _ _ _ _ _ _ _ _ _ _ _ _ _ _ _ _ _ _ _ _ hex h.below y0 y1))))
    · intros
      rename_i he
      subst he
      have et : xs.take i = xs := List.take_of_length_le (by omega)
      rw [et] at hs hall
      exact e3 _ _ _ (e2 _ _ (HN.out ws _ _ _ _ _ _ _ _ _ _ _ _ _ _ _ _ _ _ _ _ _ _ _ _ _ _ _ _ _ _ _ _ _ _ _ _ _ _ _ _ _ _ _ _ _ _ _ _ _ _ _ _ _ _ _ _ _ _ _ _ _ _ _ h hs hall))

set_option maxRecDepth 100000 in
theorem of_bad {x0 x1 x2 x3 x6 x7 x8 x9 x10 x11 x12 x13 x14 x15 x16 x17 x18 x19 x20 x21 x22 x23 x24 x25 x26 x27 x28 x29 x30 x31 x32 x33 x34 x35 x36 x37 x38 x39 x40 x41 x42 x43 x44 x45 x46 x47 x48 x49 x50 x51 x52 x53 x54 x55 x56 x57 x58 x59 x60 x61 x62 x63 x64 x65 x66 x67 x68 x69 x70 x71 x72 x73 x74 x75 x76 x77 x78 x79 x80 x81 : Value}  {R : Nat} {post : Ending → World → Prop} {W : World} (r0 : W.cell? ⟨R, 0, none⟩ = some (.int .i64 0)) (r1 : W.cell? ⟨R, 1, none⟩ = some (.slice none 0 0)) (h : post (.returned (.tuple #[.agg #[.int .i64 0, .slice none 0 0], .int .i64 1])) W) : bodyPost Try.prog Try.f38 post .ret ⟨#[x0, x1, x2, x3, .pointer (some ⟨R, 0, none⟩), .int .i64 1, x6, x7, x8, x9, x10, x11, x12, x13, x14, x15, x16, x17, x18, x19, x20, x21, x22, x23, x24, x25, x26, x27, x28, x29, x30, x31, x32, x33, x34, x35, x36, x37, x38, x39, x40, x41, x42, x43, x44, x45, x46, x47, x48, x49, x50, x51, x52, x53, x54, x55, x56, x57, x58, x59, x60, x61, x62, x63, x64, x65, x66, x67, x68, x69, x70, x71, x72, x73, x74, x75, x76, x77, x78, x79, x80, x81], []⟩ W :=
  bodyPost_ret (v := .tuple #[.agg #[.int .i64 0, .slice none 0 0], .int .i64 1]) (by simp [results, Try.results38, go_sem, r0, r1]) rfl h

set_option maxRecDepth 100000 in
theorem of_ok {x0 x1 x2 x3 x6 x7 x8 x9 x10 x11 x12 x13 x14 x15 x16 x17 x18 x19 x20 x21 x22 x23 x24 x25 x26 x27 x28 x29 x30 x31 x32 x33 x34 x35 x36 x37 x38 x39 x40 x41 x42 x43 x44 x45 x46 x47 x48 x49 x50 x51 x52 x53 x54 x55 x56 x57 x58 x59 x60 x61 x62 x63 x64 x65 x66 x67 x68 x69 x70 x71 x72 x73 x74 x75 x76 x77 x78 x79 x80 x81 : Value} {n : Int} {a : Option Addr} {l c : Nat} {R : Nat} {post : Ending → World → Prop} {W : World} (r0 : W.cell? ⟨R, 0, none⟩ = some (.int .i64 n)) (r1 : W.cell? ⟨R, 1, none⟩ = some (.slice a l c)) (h : post (.returned (.tuple #[.agg #[.int .i64 n, .slice a l c], .int .i64 0])) W) : bodyPost Try.prog Try.f38 post .ret ⟨#[x0, x1, x2, x3, .pointer (some ⟨R, 0, none⟩), .int .i64 0, x6, x7, x8, x9, x10, x11, x12, x13, x14, x15, x16, x17, x18, x19, x20, x21, x22, x23, x24, x25, x26, x27, x28, x29, x30, x31, x32, x33, x34, x35, x36, x37, x38, x39, x40, x41, x42, x43, x44, x45, x46, x47, x48, x49, x50, x51, x52, x53, x54, x55, x56, x57, x58, x59, x60, x61, x62, x63, x64, x65, x66, x67, x68, x69, x70, x71, x72, x73, x74, x75, x76, x77, x78, x79, x80, x81], []⟩ W :=
  bodyPost_ret (v := .tuple #[.agg #[.int .i64 n, .slice a l c], .int .i64 0]) (by simp [results, Try.results38, go_sem, r0, r1]) rfl h

set_option maxRecDepth 100000 in
set_option maxHeartbeats 12800000 in
theorem r14of_any (n : Int) (a : Option Addr) (len cap : Nat) (xs : List Int) (w : World) (hL : Lsts w a len cap xs) (hlen : len ≤ 17592186044416) : Calls Try.prog 38 #[.int .i64 n, .slice a len cap] w fun e w' => OfT14 n xs w e w' := by
  go_enter Try.func38, Try.ntmps38
  refine pcSeq (fun Q0 n0 r0 _ => of_p0 ?_)
  have hb0 := balloc w (.cells #[.int .i64 0, .slice none 0 0] 42)
  have hR := heap_alloc_new w (.cells #[.int .i64 0, .slice none 0 0] 42)
  have y0 : (w.alloc (.cells #[.int .i64 0, .slice none 0 0] 42)).cell? ⟨w.heap.size, 0, none⟩ = some (.int .i64 0) := by simp
  have y1 : (w.alloc (.cells #[.int .i64 0, .slice none 0 0] 42)).cell? ⟨w.heap.size, 1, none⟩ = some (.slice none 0 0) := by simp
  have f0 : (w.alloc (.cells #[.int .i64 0, .slice none 0 0] 42)).frozen? ⟨w.heap.size, 0, none⟩ = false := frozen_of_row _ _ _ _ _ hR
  have f1 : (w.alloc (.cells #[.int .i64 0, .slice none 0 0] 42)).frozen? ⟨w.heap.size, 1, none⟩ = false := frozen_of_row _ _ _ _ _ hR
  refine n0 _ _ (pcSeq (fun Q1 n1 r1 _ => of_p1 y0 y1 f0 f1 ?_ ?_))
  · intros
    rename_i hn0 hn1
    obtain ⟨m, rfl⟩ : ∃ m : Nat, n = (m : Int) := ⟨n.toNat, by omega⟩
    refine n1 _ _ (pcSeq (fun Q2 n2 r2 _ => of_p3 (by omega) ?_))
    intro w1
    intros
    rename_i k1 k2 k3
    have hsz0 : (w.alloc (.cells #[.int .i64 0, .slice none 0 0] 42)).heap.size = w.heap.size + 1 := by simp
    have hb2 := balloc w1 (.cells #[.int .i64 (m : Int), .slice (some ⟨(w.alloc (.cells #[.int .i64 0, .slice none 0 0] 42)).heap.size, 0, none⟩) ((m + 63) / 64) ((m + 63) / 64)] 42)
    have hO : OfAt w (w1.alloc (.cells #[.int .i64 (m : Int), .slice (some ⟨(w.alloc (.cells #[.int .i64 0, .slice none 0 0] 42)).heap.size, 0, none⟩) ((m + 63) / 64) ((m + 63) / 64)] 42)) w.heap.size w1.heap.size (w.alloc (.cells #[.int .i64 0, .slice none 0 0] 42)).heap.size m ((m + 63) / 64) (noughts ((m + 63) / 64)) := by
      refine ⟨bthen (bthen hb0 k2) hb2, ?_, heap_alloc_new _ _, ?_, by simp [noughts], ⟨Nat.le_refl _, by omega, by omega⟩, ⟨by omega, by omega, by omega⟩⟩
      · rw [hb2.block _ (by omega), k2.block _ (by omega)]
        exact hR
      · have hg := k1.lt14
        obtain ⟨cur, q1, q2⟩ := k1
        exact ⟨cur, (hb2.block _ hg).trans q1, q2⟩
    have hset : IsSet m (inList []) (noughts ((m + 63) / 64)) := (IsSet.empty m).congr (fun i _ => by unfold inList; simp)
    refine n2 _ _ (pcSeq (fun Q3 n3 r3 _ => of_l1 hL hlen (by omega) hO hset ?_ ?_))
    · intro ws w3
      intros
      rename_i hA hs hall
      obtain ⟨⟨c0, c1, c2, c3⟩, c4, c5⟩ := hA.cells
      refine n3 _ _ (of_p17 c0 c1 c2 c3 c4 c5 ?_)
      intros
      have q1 := heap_setCell_same w3 w.heap.size 0 _ _ (.int .i64 (m : Int)) hA.r
      have q2 := heap_setCell_same _ w.heap.size 1 _ _ (.slice (some ⟨(w.alloc (.cells #[.int .i64 0, .slice none 0 0] 42)).heap.size, 0, none⟩) ((m + 63) / 64) ((m + 63) / 64)) q1
      have hgr := World.grownBy.trans (grown_set w3 w.heap.size 0 (.int .i64 (m : Int))) (grown_set _ w.heap.size 1 (.slice (some ⟨(w.alloc (.cells #[.int .i64 0, .slice none 0 0] 42)).heap.size, 0, none⟩) ((m + 63) / 64) ((m + 63) / 64)))
      have hbk : Blk ((w3.setCell ⟨w.heap.size, 0, none⟩ (.int .i64 (m : Int))).setCell ⟨w.heap.size, 1, none⟩ (.slice (some ⟨(w.alloc (.cells #[.int .i64 0, .slice none 0 0] 42)).heap.size, 0, none⟩) ((m + 63) / 64) ((m + 63) / 64))) (w.alloc (.cells #[.int .i64 0, .slice none 0 0] 42)).heap.size ws := by
        have hg := hA.b.lt14
        obtain ⟨cur, z1, z2⟩ := hA.b
        exact ⟨cur, (hgr.block _ hg (fun e => hA.ne.1 (Option.some.inj e))).trans z1, z2⟩
      exact of_ok (by rw [cell_of_row _ _ _ _ _ _ q2]; rfl) (by rw [cell_of_row _ _ _ _ _ _ q2]; rfl) ⟨(m : Int), _, _, _, ws, 0, rfl, hbk.nums hs.dig hA.len (by omega), .inr ⟨⟨by omega, by omega, hall⟩, rfl, hs, rfl⟩, put2_below hA.below (Nat.le_refl _) _ _⟩
    · intro w3
      intros
      rename_i hex hB z0 z1
      refine r3 _ _ (of_bad z0 z1 ⟨0, none, 0, 0, [], 1, rfl, ?_, .inl ⟨.inr (.inr hex), rfl, rfl, rfl⟩, put2_below hB (Nat.le_refl _) _ _⟩)
      exact ⟨rfl, Nat.le_refl _, Nat.zero_le _, fun h => absurd h (Nat.lt_irrefl _), fun x hx => by cases hx⟩
  · intros
    rename_i hbad
    have k1 := heap_setCell_same _ w.heap.size 0 _ _ (.int .i64 0) hR
    have k2 := heap_setCell_same _ w.heap.size 1 _ _ (.slice none 0 0) k1
    refine r1 _ _ (of_bad (by rw [cell_of_row _ _ _ _ _ _ k2]; rfl) (by rw [cell_of_row _ _ _ _ _ _ k2]; rfl) ⟨0, none, 0, 0, [], 1, rfl, ?_, .inl ⟨?_, rfl, rfl, rfl⟩, put2_below hb0 (Nat.le_refl _) _ _⟩)
    · exact ⟨rfl, Nat.le_refl _, Nat.zero_le _, fun h => absurd h (Nat.lt_irrefl _), fun x hx => by cases hx⟩
    · rcases hbad with e | e
      · exact .inl e
      · exact .inr (.inl e)
end Go.Proofs.Ytaiikhbfnfcalaa

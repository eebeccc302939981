/-
  The document's sets: contracts of bit, Right, Has, Same.
-/
import Derived.Test.YtfgccldkbolkoaaB14Math
import Derived.Test.YtfgccldkbolkoaaW12B
namespace Go.Proofs.Ytfgccldkbolkoaa
open Go.RowKit

/-- A set in memory. -/
abbrev bitsV (N : Int) (a : Option Addr) (l c : Nat) : Value := .agg #[.int .i64 N, .slice a l c]
theorem word_at {w : World} {a : Option Addr} {l c : Nat} {ws : List Int} (h : Nums w a l c ws) {q : Nat} (hq : q < l) : ∃ b off m, a = some ⟨b, off, none⟩ ∧ w.cell? ⟨b, off + q, none⟩ = some (.int .u64 ((m : Nat) : Int)) ∧ m = (ws.getD q 0).toNat ∧ m < 18446744073709551616 := by
  obtain ⟨b, off, e, hc⟩ := h.cells (by omega)
  have hx := h.word (ws[q]'(by rw [h.hlen]; exact hq)) (List.getElem_mem _)
  have e2 : ws.getD q 0 = ws[q]'(by rw [h.hlen]; exact hq) := by simp [List.getD, h.hlen, hq]
  refine ⟨b, off, (ws.getD q 0).toNat, e, ?_, rfl, by rw [e2]; omega⟩
  rw [hc q hq]
  congr 2
  rw [e2]
  omega
set_option maxRecDepth 20000 in
set_option maxHeartbeats 3200000 in
theorem r14bit_any (N : Int) (a : Option Addr) (l c : Nat) (ws : List Int) (i : Nat) (w : World) (h : Nums w a l c ws) (hi : i < 64 * l) (hi2 : i ≤ 1073741824) :
    Calls Try.prog 24 #[.agg #[.int .i64 N, .slice a l c], .int .i64 (i : Int)] w fun e w' => e = .returned (.bool (wbit ws i)) ∧ Below w.heap.size w w' := by
  obtain ⟨q, hq⟩ : ∃ q, q = i / 64 := ⟨_, rfl⟩
  obtain ⟨r, hr⟩ : ∃ r, r = i % 64 := ⟨_, rfl⟩
  have hql : q < l := by omega
  have hb := balloc w (.cells #[.int .i64 N, .slice a l c] 25)
  have hcap := h.hcap
  have hmax := h.hmax
  unfold maxLen at hmax
  obtain ⟨b, off, m, rfl, hc, hm, hlt⟩ := word_at (h.below hb) hql
  have d1 : (i : Int).tdiv 64 = (q : Int) := by rw [Int.tdiv_eq_ediv_of_nonneg (by omega)]; omega
  have d2 : (i : Int).tmod 64 = (r : Int) := by rw [Int.tmod_eq_emod_of_nonneg (by omega)]; omega
  have hqi : (q : Int) < (l : Int) := by omega
  have hq0 : (0 : Int) ≤ (q : Int) := by omega
  have hr64 : r < 64 := by omega
  obtain ⟨B, hB⟩ : ∃ B, B = wbit ws i := ⟨_, rfl⟩
  have HB : Hid (B = decide (m / 2 ^ r % 2 = 1)) := by
    show _ = _
    rw [hB]
    unfold wbit
    rw [← hq, ← hr, ← hm, testBit_div]
  have HW : Hid (Below w.heap.size w (w.alloc (.cells #[.int .i64 N, .slice (some ⟨b, off, none⟩) l c] 25))) := hb
  rw [← hB]
  clear hB hm hb h hi hq hr
  go_enter Try.func24, Try.ntmps24
  go_wp2
  go_loopw [5, 6] (fun v5 v6 wr => wr = w.alloc (.cells #[.int .i64 N, .slice (some ⟨b, off, none⟩) l c] 25) ∧ ∃ k : Nat, v6 = .int .i64 (k : Int) ∧ k ≤ r ∧ v5 = .int .u64 ((m / 2 ^ k : Nat) : Int)) (fun _ v6 _ => r - (intOf v6).toNat)
  case atStart => exact ⟨by trivial, 0, rfl, Nat.zero_le _, by simp⟩
  case round =>
    obtain ⟨rfl, k, rfl, hk, rfl⟩ := hrel
    obtain ⟨x, hx⟩ : ∃ x, x = m / 2 ^ k := ⟨_, rfl⟩
    have hxm : x ≤ m := by rw [hx]; exact Nat.div_le_self _ _
    rw [← hx]
    by_cases hlt2 : k < r
    · have hkd : decide (k < r) = true := decide_eq_true hlt2
      obtain ⟨y, hy⟩ : ∃ y, y = x / 2 := ⟨_, rfl⟩
      have e : (x : Int).tdiv 2 = (y : Int) := by rw [Int.tdiv_eq_ediv_of_nonneg (by omega)]; omega
      have HY : Hid (y = m / 2 ^ (k + 1) ∧ k < r) := ⟨by rw [hy, hx, Nat.pow_succ, Nat.div_div_eq_div_mul], hlt2⟩
      have hwr : IntKind.u64.wrap (y : Int) = (y : Int) := by simp [IntKind.wrap, IntKind.signed, IntKind.bits]; omega
      clear hx hy hlt2
      go_wp2
      go_roundw
      case rel => exact ⟨by trivial, k + 1, by go_num, HY.out.2, by rw [← HY.out.1]⟩
      case measure => have := HY.out.2; simp [intOf]; omega
    · obtain rfl : k = r := by omega
      have hkd : decide (k < k) = false := decide_eq_false (by omega)
      obtain ⟨z, hz⟩ : ∃ z, z = x % 2 := ⟨_, rfl⟩
      have e : (x : Int).tmod 2 = (z : Int) := by rw [Int.tmod_eq_emod_of_nonneg (by omega)]; omega
      have HZ : Hid (B = decide (z = 1)) := by show _ = _; rw [HB.out, hz, hx]
      have hz2 : z = 0 ∨ z = 1 := by omega
      clear hx hz hlt2 HB
      rcases hz2 with rfl | rfl
      · go_wp2
        go_ret
        exact ⟨by rw [HZ.out]; rfl, HW.out⟩
      · go_wp2
        go_ret
        exact ⟨by rw [HZ.out]; rfl, HW.out⟩
/-- Whether a set may be. -/
theorem RightS.not_len {N : Int} {ws : List Int} (h : ¬ ((ws.length : Int) = (N + 63) / 64)) : ¬ RightS N ws := fun e => h e.len
set_option maxRecDepth 20000 in
set_option maxHeartbeats 6400000 in
theorem r14right_any (N : Int) (a : Option Addr) (l c : Nat) (ws : List Int) (w : World) (hN : -9223372036854775808 ≤ N ∧ N < 9223372036854775808) (h : Nums w a l c ws) :
    Calls Try.prog 33 #[.agg #[.int .i64 N, .slice a l c]] w fun e w' => ∃ b, e = .returned (.bool b) ∧ (b = true ↔ RightS N ws) ∧ Below w.heap.size w w' := by
  have hb := balloc w (.cells #[.int .i64 N, .slice a l c] 25)
  obtain ⟨V, hVe⟩ : ∃ V, V = w.alloc (.cells #[.int .i64 N, .slice a l c] 25) := ⟨_, rfl⟩
  have HVe : Hid (V = w.alloc (.cells #[.int .i64 N, .slice a l c] 25)) := hVe
  obtain ⟨G, hG⟩ : ∃ G, G = w.heap.size := ⟨_, rfl⟩
  have HG : Hid (G = w.heap.size) := hG
  have x0 : V.cell? ⟨G, 0, none⟩ = some (.int .i64 N) := by rw [hVe, hG]; simp
  have x1 : V.cell? ⟨G, 1, none⟩ = some (.slice a l c) := by rw [hVe, hG]; simp
  rw [← hVe] at hb
  have HB : Hid (Below w.heap.size w V) := hb
  have hcap := h.hcap
  have hmax := h.hmax
  unfold maxLen at hmax
  have HLn : Hid (ws.length = l) := h.hlen
  have HN : Hid (Nums V a l c ws) := h.below hb
  clear hb h hVe hG
  go_enter Try.func33, Try.ntmps33
  go_upto_region 1 with fail
  rw [← HVe.out, ← HG.out]
  clear HVe HG
  by_cases n1 : N < 0
  · have d1 : decide (N < 0) = true := decide_eq_true n1
    have HR : Hid (¬ RightS N ws) := fun e => by have := e.lo; omega
    clear n1
    go_wp2
    go_ret
    exact ⟨false, rfl, ⟨fun e => (by cases e), fun e => absurd e HR.out⟩, HB.out⟩
  have d1 : decide (N < 0) = false := decide_eq_false n1
  by_cases n2 : 65536 < N
  · have d2 : decide (65536 < N) = true := decide_eq_true n2
    have HR : Hid (¬ RightS N ws) := fun e => by have := e.hi; omega
    clear n1 n2
    go_wp2
    go_ret
    exact ⟨false, rfl, ⟨fun e => (by cases e), fun e => absurd e HR.out⟩, HB.out⟩
  have d2 : decide (65536 < N) = false := decide_eq_false n2
  obtain ⟨M, rfl⟩ : ∃ M : Nat, N = (M : Int) := ⟨N.toNat, by omega⟩
  obtain ⟨q, hq⟩ : ∃ q, q = (M + 63) / 64 := ⟨_, rfl⟩
  have e1 : ((M : Int) + 63).tdiv 64 = (q : Int) := by rw [Int.tdiv_eq_ediv_of_nonneg (by omega)]; omega
  have hM : M ≤ 65536 := by omega
  have hq2 : q ≤ 1024 := by omega
  have hwq : RowKit.wrap64 (q : Int) = (q : Int) := by unfold RowKit.wrap64; omega
  by_cases n3 : l = q
  case neg =>
    have d3 : ((l : Int) != (q : Int)) = true := by simp; omega
    have d3' : ((l : Int) == (q : Int)) = false := by simp; omega
    have HR : Hid (¬ RightS (M : Int) ws) := fun e => by have := e.len; rw [HLn.out] at this; omega
    clear n1 n2 n3 hq
    go_wp2
    go_ret
    exact ⟨false, rfl, ⟨fun e => (by cases e), fun e => absurd e HR.out⟩, HB.out⟩
  subst n3
  have d3 : ((l : Int) != (l : Int)) = false := by simp
  have HL : Hid ((ws.length : Int) = ((M : Int) + 63) / 64) := by show _ = _; rw [HLn.out]; omega
  have hml : M ≤ 64 * l := by omega
  have hl2 : l ≤ 1024 := by omega
  clear n1 n2 hq
  go_wp2
  go_loopw [3] (fun v3 wr => ∃ k : Nat, v3 = .int .i64 (k : Int) ∧ M ≤ k ∧ k ≤ 64 * l ∧ Hid (∀ i, M ≤ i → i < k → wbit ws i = false) ∧ Hid (Below V.heap.size V wr)) (fun v3 _ => 64 * l - (intOf v3).toNat)
  case atStart => exact ⟨M, rfl, Nat.le_refl _, hml, fun i h1 h2 => by omega, Below.refl _ _⟩
  case round =>
    obtain ⟨k, rfl, hk1, hk2, HJ, HBr⟩ := hrel
    replace x0 := bkeep HBr.out x0 rfl
    replace x1 := bkeep HBr.out x1 rfl
    obtain ⟨L, hL⟩ : ∃ L : Nat, L = 64 * l := ⟨_, rfl⟩
    have eL : (64 : Int) * (l : Int) = (L : Int) := by omega
    by_cases hlt : k < L
    · have hkd : decide (k < L) = true := decide_eq_true hlt
      have HC := (show Hid _ from r14bit_any (M : Int) a l c ws k wr (HN.out.below HBr.out) (by omega) (by omega))
      have HT : Hid (k < 64 * l) := by show _ < _; omega
      clear hlt hL
      go_wp2_with fail
      refine Calls.mono HC.out ?_
      rintro e w2 ⟨rfl, hb2⟩
      obtain ⟨b, hb⟩ : ∃ b, b = wbit ws k := ⟨_, rfl⟩
      rw [← hb]
      have HBt : Hid (b = wbit ws k) := hb
      have HB2 : Hid (Below V.heap.size V w2) := bthen HBr.out hb2
      clear HC hb hb2 x0 x1
      dsimp only
      cases b with
      | true =>
        have HR : Hid (¬ RightS (M : Int) ws) := fun e => by
          have := e.top k (by omega) (by rw [HLn.out]; exact HT.out)
          rw [← HBt.out] at this
          cases this
        clear HJ
        go_wp2
        go_ret
        exact ⟨false, rfl, ⟨fun e => (by cases e), fun e => absurd e HR.out⟩, bthen HB.out HB2.out⟩
      | false =>
        have HJ2 : Hid (∀ i, M ≤ i → i < k + 1 → wbit ws i = false) := fun i h1 h2 => by
          by_cases e : i = k
          · rw [e]; exact HBt.out.symm
          · exact HJ.out i h1 (by omega)
        clear HJ
        go_wp2
        go_roundw
        case rel => exact ⟨k + 1, by go_num, by omega, HT.out, HJ2.out, HB2.out⟩
        case measure => have := HT.out; simp [intOf]; omega
    · have hkd : decide (k < L) = false := decide_eq_false hlt
      have HR : Hid (RightS (M : Int) ws) := ⟨by omega, by omega, HL.out, fun i h1 h2 => HJ.out i (by omega) (by rw [HLn.out] at h2; omega)⟩
      clear hlt hL HJ
      go_wp2
      go_ret
      exact ⟨true, rfl, ⟨fun _ => HR.out, fun _ => rfl⟩, bthen HB.out HBr.out⟩
end Go.Proofs.Ytfgccldkbolkoaa

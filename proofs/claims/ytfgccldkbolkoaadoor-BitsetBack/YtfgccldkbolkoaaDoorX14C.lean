/-
  The program's sets: Has.
-/
import Derived.Test.YtfgccldkbolkoaaDoorX14B
namespace Go.Proofs.YtfgccldkbolkoaaDoor
open Go.RowKit

theorem and_one14 {e : Nat} (h : e < 18446744073709551616) : bits .and .u64 (e : Int) 1 = ((e % 2 : Nat) : Int) := by
  have h1 := bits_and_u64_nat e 1 h (by omega)
  rw [Nat.and_one_is_mod] at h1
  exact h1
set_option maxRecDepth 20000 in
set_option maxHeartbeats 3200000 in
theorem x14has_any (N : Int) (a : Option Addr) (l c : Nat) (ws : List Int) (i : Int) (w : World) (hN : -9223372036854775808 ≤ N ∧ N < 9223372036854775808) (h : Nums w a l c ws) :
    Calls Tryd.prog 9 #[.agg #[.int .i64 N, .slice a l c], .int .i64 i] w fun e w' => HasT14 N ws i w e w' := by
  have hb := balloc w (.cells #[.int .i64 N, .slice a l c] 24)
  obtain ⟨V, hVe⟩ : ∃ V, V = w.alloc (.cells #[.int .i64 N, .slice a l c] 24) := ⟨_, rfl⟩
  have HVe : Hid (V = w.alloc (.cells #[.int .i64 N, .slice a l c] 24)) := hVe
  obtain ⟨G, hG⟩ : ∃ G, G = w.heap.size := ⟨_, rfl⟩
  have HG : Hid (G = w.heap.size) := hG
  have x0 : V.cell? ⟨G, 0, none⟩ = some (.int .i64 N) := by rw [hVe, hG]; simp
  have x1 : V.cell? ⟨G, 1, none⟩ = some (.slice a l c) := by rw [hVe, hG]; simp
  rw [← hVe] at hb
  have HB : Hid (Below w.heap.size w V) := hb
  have HN : Hid (Nums V a l c ws) := h.below hb
  have HC := (show Hid _ from x14right_any N a l c ws V hN (h.below hb))
  clear hb h hVe hG
  go_enter Tryd.func9, Tryd.ntmps9
  go_upto_region 1 with fail
  rw [← HVe.out, ← HG.out]
  clear HVe HG
  have no : ∀ {p : Prop}, p → (p → ¬ (RightS N ws ∧ 0 ≤ i ∧ i < N ∧ wbit ws i.toNat = true)) → ResHas N ws i false := fun p q => ⟨fun e => (by cases e), fun e => absurd e (q p)⟩
  go_wp2_with fail
  refine Calls.mono HC.out ?_
  rintro e w1 ⟨b, rfl, hbr, hb1⟩
  replace x0 := bkeep hb1 x0 rfl
  replace x1 := bkeep hb1 x1 rfl
  have HB1 : Hid (Below w.heap.size w w1 ∧ Below V.heap.size V w1) := ⟨bthen HB.out hb1, hb1⟩
  have HR : Hid (b = true ↔ RightS N ws) := hbr
  clear HC hbr hb1
  dsimp only
  cases b with
  | false =>
    have HF : Hid (ResHas N ws i false) := no trivial (fun _ e => by have := HR.out.2 e.1; cases this)
    clear no
    go_wp2
    go_ret
    exact ⟨false, rfl, HF.out, HB1.out.1⟩
  | true =>
  have hRt : RightS N ws := HR.out.1 rfl
  by_cases i1 : i < 0
  · have d1 : decide (i < 0) = true := decide_eq_true i1
    have HF : Hid (ResHas N ws i false) := no i1 (fun _ e => by omega)
    clear no i1 hRt
    go_wp2
    go_ret
    exact ⟨false, rfl, HF.out, HB1.out.1⟩
  have d1 : decide (i < 0) = false := decide_eq_false i1
  by_cases i2 : N ≤ i
  · have d2 : decide (N ≤ i) = true := decide_eq_true i2
    have HF : Hid (ResHas N ws i false) := no i2 (fun _ e => by omega)
    clear no i1 i2 hRt
    go_wp2
    go_ret
    exact ⟨false, rfl, HF.out, HB1.out.1⟩
  have d2 : decide (N ≤ i) = false := decide_eq_false i2
  obtain ⟨k, rfl⟩ : ∃ k : Nat, i = (k : Int) := ⟨i.toNat, by omega⟩
  have hkN : (k : Int) < N := by omega
  have hk00 : (0 : Int) ≤ (k : Int) := by omega
  have h1 := hRt.len
  have h2 := hRt.hi
  have h3 := HN.out.hlen
  obtain ⟨q, hq⟩ : ∃ q, q = k / 64 := ⟨_, rfl⟩
  obtain ⟨r, hr⟩ : ∃ r, r = k % 64 := ⟨_, rfl⟩
  have hql : q < l := by omega
  have h4 := HN.out.hcap
  have h5 := HN.out.hmax
  unfold maxLen at h5
  obtain ⟨b, off, m, rfl, hc, hm, hlt⟩ := word_at (HN.out.below HB1.out.2) hql
  have t1 : (k : Int).tdiv 64 = (q : Int) := by rw [Int.tdiv_eq_ediv_of_nonneg (by omega)]; omega
  have t2 : (k : Int).tmod 64 = (r : Int) := by rw [Int.tmod_eq_emod_of_nonneg (by omega)]; omega
  have hqi : (q : Int) < (l : Int) := by omega
  have hq0 : (0 : Int) ≤ (q : Int) := by omega
  have hr64 : r < 64 := by omega
  have hwq : RowKit.wrap64 (q : Int) = (q : Int) := by unfold RowKit.wrap64; omega
  obtain ⟨y, hy⟩ : ∃ y, y = m / 2 ^ r := ⟨_, rfl⟩
  have hsh : (m : Int) / 2 ^ r = (y : Int) := by rw [hy]; simp
  have hylt : y < 18446744073709551616 := by have := Nat.div_le_self m (2 ^ r); omega
  have hand := and_one14 hylt
  obtain ⟨t, ht⟩ : ∃ t, t = y % 2 := ⟨_, rfl⟩
  rw [← ht] at hand
  have HF : Hid (ResHas N ws (k : Int) (decide (t = 1))) := by
    have e : wbit ws k = decide (t = 1) := by
      unfold wbit
      rw [← hq, ← hr, ← hm, testBit_div, ht, hy]
    rw [← e]
    exact ⟨fun e => ⟨hRt, hk00, hkN, e⟩, fun e => e.2.2.2⟩
  have ht2 : t = 0 ∨ t = 1 := by omega
  clear no i1 i2 hRt hkN hk00 h1 h2 h3 hq hr hm hy ht hlt hylt
  rcases ht2 with rfl | rfl
  · go_wp2
    go_ret
    exact ⟨false, rfl, HF.out, HB1.out.1⟩
  · go_wp2
    go_ret
    exact ⟨true, rfl, HF.out, HB1.out.1⟩
end Go.Proofs.YtfgccldkbolkoaaDoor

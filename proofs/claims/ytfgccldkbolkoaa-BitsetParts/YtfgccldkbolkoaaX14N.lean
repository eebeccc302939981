/-
  The program's sets: OnesCount64, Count.
-/
import Derived.Test.YtfgccldkbolkoaaX14P
import Derived.Test.YtfgccldkbolkoaaX14B
namespace Go.Proofs.Ytfgccldkbolkoaa
open Go.RowKit

theorem and_i64 (a : Nat) (ha : a < 9223372036854775808) : bits .and .i64 (a : Int) 127 = ((a % 128 : Nat) : Int) := by
  have h := (bits_nat .i64 63 (by decide) (fun n h0 h1 => by rw [IntKind.wrap_i64]; omega) a 127 (by omega) (by decide)).1
  have e := Nat.and_two_pow_sub_one_eq_mod a 7
  have p : (2 : Nat) ^ 7 - 1 = 127 := by decide
  have p2 : (2 : Nat) ^ 7 = 128 := by decide
  rw [p, p2] at e
  rw [e] at h
  exact h
set_option maxRecDepth 20000 in
set_option maxHeartbeats 3200000 in
theorem ones14_any (x : Nat) (hx : x < 18446744073709551616) (w : World) : Calls Try.prog 31 #[.int .u64 (x : Int)] w fun e w' => e = .returned (.int .i64 ((numsOfS 64 (fun j => x.testBit j)).length : Int)) ∧ w = w' := by
  obtain ⟨y1, hy1⟩ : ∃ y, y = x / 2 := ⟨_, rfl⟩
  obtain ⟨p1, hp1⟩ : ∃ p, p = y1 &&& 6148914691236517205 := ⟨_, rfl⟩
  obtain ⟨p2, hp2⟩ : ∃ p, p = x &&& 6148914691236517205 := ⟨_, rfl⟩
  obtain ⟨x1, hx1⟩ : ∃ z, z = p1 + p2 := ⟨_, rfl⟩
  obtain ⟨y2, hy2⟩ : ∃ y, y = x1 / 4 := ⟨_, rfl⟩
  obtain ⟨p3, hp3⟩ : ∃ p, p = y2 &&& 3689348814741910323 := ⟨_, rfl⟩
  obtain ⟨p4, hp4⟩ : ∃ p, p = x1 &&& 3689348814741910323 := ⟨_, rfl⟩
  obtain ⟨x2, hx2⟩ : ∃ z, z = p3 + p4 := ⟨_, rfl⟩
  obtain ⟨y3, hy3⟩ : ∃ y, y = x2 / 16 := ⟨_, rfl⟩
  obtain ⟨z3, hz3⟩ : ∃ z, z = y3 + x2 := ⟨_, rfl⟩
  obtain ⟨t, ht⟩ : ∃ t, t = z3 &&& 1085102592571150095 := ⟨_, rfl⟩
  obtain ⟨y4, hy4⟩ : ∃ y, y = t / 256 := ⟨_, rfl⟩
  obtain ⟨s, hs⟩ : ∃ s, s = t + y4 := ⟨_, rfl⟩
  obtain ⟨y5, hy5⟩ : ∃ y, y = s / 65536 := ⟨_, rfl⟩
  obtain ⟨u, hu⟩ : ∃ z, z = s + y5 := ⟨_, rfl⟩
  obtain ⟨y6, hy6⟩ : ∃ y, y = u / 4294967296 := ⟨_, rfl⟩
  obtain ⟨v, hv⟩ : ∃ z, z = u + y6 := ⟨_, rfl⟩
  obtain ⟨l1, l2, l3, et⟩ := pops14 (x := x) (x1 := x1) (x2 := x2) (x3 := t) hx (by rw [hx1, hp1, hp2, hy1]) (by rw [hx2, hp3, hp4, hy2]) (by rw [ht, hz3, hy3])
  obtain ⟨g1, g2, g3, ev⟩ := sum14 x t s u v et (by rw [hs, hy4]) (by rw [hu, hy5]) (by rw [hv, hy6])
  have hy1l : y1 < 18446744073709551616 := by omega
  have hy2l : y2 < 18446744073709551616 := by omega
  have hz3l : z3 < 18446744073709551616 := by omega
  have D1 : (x : Int) / 2 = (y1 : Int) := by omega
  have B1 : bits .and .u64 (y1 : Int) 6148914691236517205 = (p1 : Int) := by rw [hp1]; exact bits_and_u64_nat y1 6148914691236517205 hy1l (by decide)
  have B2 : bits .and .u64 (x : Int) 6148914691236517205 = (p2 : Int) := by rw [hp2]; exact bits_and_u64_nat x 6148914691236517205 hx (by decide)
  have W1 : IntKind.u64.wrap ((p1 : Int) + (p2 : Int)) = (x1 : Int) := by rw [u64_lit _ (by omega) (by omega)]; omega
  have D2 : (x1 : Int) / 4 = (y2 : Int) := by omega
  have B3 : bits .and .u64 (y2 : Int) 3689348814741910323 = (p3 : Int) := by rw [hp3]; exact bits_and_u64_nat y2 3689348814741910323 hy2l (by decide)
  have B4 : bits .and .u64 (x1 : Int) 3689348814741910323 = (p4 : Int) := by rw [hp4]; exact bits_and_u64_nat x1 3689348814741910323 l1 (by decide)
  have W2 : IntKind.u64.wrap ((p3 : Int) + (p4 : Int)) = (x2 : Int) := by rw [u64_lit _ (by omega) (by omega)]; omega
  have D3 : (x2 : Int) / 16 = (y3 : Int) := by omega
  have W3 : IntKind.u64.wrap ((y3 : Int) + (x2 : Int)) = (z3 : Int) := by rw [u64_lit _ (by omega) (by omega)]; omega
  have B5 : bits .and .u64 (z3 : Int) 1085102592571150095 = (t : Int) := by rw [ht]; exact bits_and_u64_nat z3 1085102592571150095 hz3l (by decide)
  have D4 : (t : Int) / 256 = (y4 : Int) := by omega
  have W4 : IntKind.u64.wrap ((t : Int) + (y4 : Int)) = (s : Int) := by rw [u64_lit _ (by omega) (by omega)]; omega
  have D5 : (s : Int) / 65536 = (y5 : Int) := by omega
  have W5 : IntKind.u64.wrap ((s : Int) + (y5 : Int)) = (u : Int) := by rw [u64_lit _ (by omega) (by omega)]; omega
  have D6 : (u : Int) / 4294967296 = (y6 : Int) := by omega
  have W6 : IntKind.u64.wrap ((u : Int) + (y6 : Int)) = (v : Int) := by rw [u64_lit _ (by omega) (by omega)]; omega
  have W7 : IntKind.i64.wrap (v : Int) = (v : Int) := by rw [IntKind.wrap_i64]; omega
  have B6 := and_i64 v (by omega)
  rw [ev] at B6
  obtain ⟨n, hn⟩ : ∃ n, n = (numsOfS 64 (fun j => x.testBit j)).length := ⟨_, rfl⟩
  rw [← hn] at B6
  rw [← hn]
  clear hy1 hp1 hp2 hx1 hy2 hp3 hp4 hx2 hy3 hz3 ht hy4 hs hy5 hu hy6 hv et ev hn
  go_enter Try.func31, Try.ntmps31
  go_wp2
  go_ret
  exact ⟨by rfl, by trivial⟩
/-- The numbers of a set, word by word. -/
theorem nums_word {ws : List Int} (q : Nat) : (numsOfS (64 * (q + 1)) (wbit ws)).length = (numsOfS (64 * q) (wbit ws)).length + (numsOfS 64 (fun j => ((ws.getD q 0).toNat).testBit j)).length := by
  rw [show 64 * (q + 1) = 64 * q + 64 by omega, numsOfS_more]
  congr 2
  exact numsOfS_congr (fun j hj => wbit_at ws q j hj)
theorem RightS.all {n : Nat} {ws : List Int} (h : RightS (n : Int) ws) : numsOfS (64 * ws.length) (wbit ws) = numsOfS n (wbit ws) :=
  numsOfS_skip (by have := h.len; omega) (fun i h1 h2 => h.top i (by omega) h2)
set_option maxRecDepth 20000 in
set_option maxHeartbeats 3200000 in
theorem x14count_any (N : Int) (a : Option Addr) (l c : Nat) (ws : List Int) (w : World) (hN : -9223372036854775808 ≤ N ∧ N < 9223372036854775808) (h : Nums w a l c ws) :
    Calls Try.prog 20 #[.agg #[.int .i64 N, .slice a l c]] w fun e w' => ∃ ns : List Nat, e = .returned (.int .i64 (ns.length : Int)) ∧ ResList N ws ns ∧ Below w.heap.size w w' := by
  have hb := balloc w (.cells #[.int .i64 N, .slice a l c] 25)
  obtain ⟨V, hVe⟩ : ∃ V, V = w.alloc (.cells #[.int .i64 N, .slice a l c] 25) := ⟨_, rfl⟩
  have HVe : Hid (V = w.alloc (.cells #[.int .i64 N, .slice a l c] 25)) := hVe
  obtain ⟨G, hG⟩ : ∃ G, G = w.heap.size := ⟨_, rfl⟩
  have HG : Hid (G = w.heap.size) := hG
  have x0 : V.cell? ⟨G, 0, none⟩ = some (.int .i64 N) := by rw [hVe, hG]; simp
  have x1 : V.cell? ⟨G, 1, none⟩ = some (.slice a l c) := by rw [hVe, hG]; simp
  rw [← hVe] at hb
  have HB : Hid (Below w.heap.size w V) := hb
  have HN : Hid (Nums V a l c ws) := h.below hb
  have HC := (show Hid _ from x14right_any N a l c ws V hN (h.below hb))
  have hcap := h.hcap
  have hmax := h.hmax
  unfold maxLen at hmax
  clear hb h hVe hG
  go_enter Try.func20, Try.ntmps20
  go_upto_region 1 with fail
  rw [← HVe.out, ← HG.out]
  clear HVe HG
  go_wp2_with fail
  refine Calls.mono HC.out ?_
  rintro e w1 ⟨b, rfl, hbr, hb1⟩
  replace x0 := bkeep hb1 x0 rfl
  replace x1 := bkeep hb1 x1 rfl
  have HB1 : Hid (Below w.heap.size w w1 ∧ Nums w1 a l c ws) := ⟨bthen HB.out hb1, HN.out.below hb1⟩
  have HR : Hid (b = true ↔ RightS N ws) := hbr
  clear HC hbr hb1 HN HB
  dsimp only
  cases b with
  | false =>
    have HF : Hid (ResList N ws []) := .inr ⟨fun e => (by have := HR.out.2 e; cases this), rfl⟩
    clear HR
    go_wp2
    go_ret
    exact ⟨[], rfl, HF.out, HB1.out.1⟩
  | true =>
  have hRt : RightS N ws := HR.out.1 rfl
  obtain ⟨M, rfl⟩ : ∃ M : Nat, N = (M : Int) := ⟨N.toNat, by have := hRt.lo; omega⟩
  have HLn : Hid (ws.length = l) := HB1.out.2.hlen
  have hl2 : l ≤ 1024 := by have := hRt.len; have := hRt.hi; have := HLn.out; omega
  have HA : Hid (numsOfS (64 * l) (wbit ws) = numsOfS M (wbit ws)) := by show _ = _; rw [← HLn.out]; exact hRt.all
  have HRt : Hid (RightS (M : Int) ws) := hRt
  clear hRt HR
  go_wp2
  go_loopw [3, 12] (fun v3 v12 wr => w1 = wr ∧ ∃ k : Nat, k ≤ l ∧ v12 = .int .i64 (k : Int) ∧ ∃ n : Nat, v3 = .int .i64 (n : Int) ∧ n ≤ 64 * k ∧ Hid (n = (numsOfS (64 * k) (wbit ws)).length)) (fun _ v12 _ => l - (intOf v12).toNat)
  case atStart => exact ⟨by trivial, 0, Nat.zero_le _, rfl, 0, rfl, Nat.le_refl _, rfl⟩
  case round =>
    obtain ⟨rfl, k, hk, rfl, n, rfl, hn64, HNn⟩ := hrel
    by_cases hlt : k < l
    · have hlti : (k : Int) < (l : Int) := by omega
      have hk0 : (0 : Int) ≤ (k : Int) := by omega
      obtain ⟨b, off, m, rfl, hc, hm, hml⟩ := word_at HB1.out.2 hlt
      have HC2 : Hid (Calls Try.prog 31 #[.int .u64 (m : Int)] w1 fun e w' => e = .returned (.int .i64 ((numsOfS 64 (fun j => m.testBit j)).length : Int)) ∧ w1 = w') := ones14_any m hml w1
      have hle := numsOfS_len 64 (fun j => m.testBit j)
      obtain ⟨t, ht⟩ : ∃ t, t = (numsOfS 64 (fun j => m.testBit j)).length := ⟨_, rfl⟩
      rw [← ht] at HC2 hle
      have HT : Hid (n + t = (numsOfS (64 * (k + 1)) (wbit ws)).length ∧ k < l) := ⟨by rw [nums_word, ← HNn.out, ← hm, ht], hlt⟩
      have hnt : (n : Int) + (t : Int) = ((n + t : Nat) : Int) := by omega
      obtain ⟨s, hs⟩ : ∃ s, s = n + t := ⟨_, rfl⟩
      have hs2 : s ≤ 64 * (k + 1) := by omega
      rw [← hs] at HT hnt
      clear hm hml ht hs hlt
      go_wp2_with fail
      refine Calls.mono HC2.out ?_
      rintro e w2 ⟨rfl, rfl⟩
      clear HC2 HNn
      dsimp only
      go_wp2
      go_roundw
      case rel => exact ⟨by trivial, k + 1, HT.out.2, by go_num, s, by go_num, hs2, HT.out.1⟩
      case measure => have := HT.out.2; simp [intOf]; omega
    · have hkd : decide (k < l) = false := decide_eq_false hlt
      have HF : Hid (n = (numsOfS M (wbit ws)).length) := by show _ = _; rw [HNn.out, show k = l by omega, HA.out]
      clear hlt HNn
      go_wp2
      go_ret
      exact ⟨numsOfS M (wbit ws), by rw [← HF.out]; rfl, .inl ⟨HRt.out, rfl⟩, HB1.out.1⟩
end Go.Proofs.Ytfgccldkbolkoaa

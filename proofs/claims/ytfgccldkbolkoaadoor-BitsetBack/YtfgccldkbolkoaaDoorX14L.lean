/-
  The program's sets: List.
-/
import Derived.Test.YtfgccldkbolkoaaDoorX14B
import Derived.Test.YtfgccldkbolkoaaDoorTzT
namespace Go.Proofs.YtfgccldkbolkoaaDoor
open Go.RowKit

/-- What is left of the word number q when the numbers below t are told. -/
structure Left14 (ws : List Int) (q t : Nat) (x : Nat) : Prop where
  lo : 64 * q ≤ t
  hi : t ≤ 64 * q + 64
  lt : x < 18446744073709551616
  bit : ∀ j, j < 64 → x.testBit j = (decide (t ≤ 64 * q + j) && wbit ws (64 * q + j))
theorem Left14.start {ws : List Int} (hd : Digs 18446744073709551616 ws) (q : Nat) : Left14 ws q (64 * q) (ws.getD q 0).toNat := by
  have e := digs_getD hd q
  exact ⟨Nat.le_refl _, by omega, (Int.toNat_lt e.1).2 e.2, fun j hj => by rw [wbit_at ws q j hj, decide_eq_true (Nat.le_add_right _ _), Bool.true_and]⟩
theorem Left14.nil {ws : List Int} {q t : Nat} (h : Left14 ws q t 0) : numsOfS (64 * (q + 1)) (wbit ws) = numsOfS t (wbit ws) := by
  refine numsOfS_skip (by have := h.hi; omega) (fun i h1 h2 => ?_)
  have hlo := h.lo
  have := h.bit (i - 64 * q) (by omega)
  rw [Nat.zero_testBit, show 64 * q + (i - 64 * q) = i by omega, decide_eq_true h1, Bool.true_and] at this
  exact this.symm
theorem Left14.next {ws : List Int} {q t x d s : Nat} (h : Left14 ws q t x) (hx : x = d * 2 ^ s) (hd : d % 2 = 1) (hs : s < 64) : Left14 ws q (64 * q + s + 1) (x &&& (x - 1)) ∧ numsOfS (64 * q + s + 1) (wbit ws) = numsOfS t (wbit ws) ++ [64 * q + s] := by
  have hb := h.bit s hs
  have h1 : x.testBit s = true := by rw [hx]; exact (low_on hd).1
  have h2 : ∀ j, j < s → x.testBit j = false := fun j hj => by rw [hx]; exact (low_on hd).2 j hj
  rw [h1] at hb
  have hb2 := (Bool.and_eq_true _ _).mp hb.symm
  have ht : t ≤ 64 * q + s := of_decide_eq_true hb2.1
  refine ⟨⟨by omega, by omega, Nat.lt_of_le_of_lt Nat.and_le_left h.lt, fun j hj => ?_⟩, ?_⟩
  · have e : (x &&& (x - 1)).testBit j = (x.testBit j && decide (j ≠ s)) := by rw [hx]; exact low_off hd j
    rw [e, h.bit j hj]
    by_cases c : j < s
    · have := h2 j c
      have e1 : decide (64 * q + s + 1 ≤ 64 * q + j) = false := decide_eq_false (by omega)
      rw [← h.bit j hj, this, e1]
      rfl
    · by_cases e2 : j = s
      · have e1 : decide (64 * q + s + 1 ≤ 64 * q + j) = false := decide_eq_false (by omega)
        have e3 : decide (j ≠ s) = false := decide_eq_false (by omega)
        rw [e1, e3, Bool.and_false, Bool.false_and]
      · have e1 : decide (64 * q + s + 1 ≤ 64 * q + j) = true := decide_eq_true (by omega)
        have e3 : decide (j ≠ s) = true := decide_eq_true e2
        have e4 : decide (t ≤ 64 * q + j) = true := decide_eq_true (by omega)
        rw [e1, e3, e4, Bool.and_true]
  · rw [numsOfS_next, hb2.2, if_pos rfl]
    congr 1
    refine numsOfS_skip ht (fun i h3 h4 => ?_)
    have hlo := h.lo
    have := h2 (i - 64 * q) (by omega)
    rw [h.bit _ (by omega), show 64 * q + (i - 64 * q) = i by omega, decide_eq_true h3, Bool.true_and] at this
    exact this
theorem RightS.all14 {n : Nat} {ws : List Int} (h : RightS (n : Int) ws) : numsOfS (64 * ws.length) (wbit ws) = numsOfS n (wbit ws) :=
  numsOfS_skip (by have := h.len; omega) (fun i h1 h2 => h.top i (by omega) h2)
set_option maxRecDepth 20000 in
set_option maxHeartbeats 6400000 in
theorem x14list_any (N : Int) (a : Option Addr) (l c : Nat) (ws : List Int) (w : World) (hN : -9223372036854775808 ≤ N ∧ N < 9223372036854775808) (h : Nums w a l c ws) (hT : TzTab w) :
    Calls Tryd.prog 6 #[.agg #[.int .i64 N, .slice a l c]] w fun e w' => ∃ ns p q, e = .returned (.slice p (ns : List Nat).length q) ∧ Lsts w' p ns.length q (ints ns) ∧ ResList N ws ns ∧ Below w.heap.size w w' := by
  have hb := balloc w (.cells #[.int .i64 N, .slice a l c] 24)
  obtain ⟨V, hVe⟩ : ∃ V, V = w.alloc (.cells #[.int .i64 N, .slice a l c] 24) := ⟨_, rfl⟩
  have HVe : Hid (V = w.alloc (.cells #[.int .i64 N, .slice a l c] 24)) := hVe
  obtain ⟨G, hG⟩ : ∃ G, G = w.heap.size := ⟨_, rfl⟩
  have HG : Hid (G = w.heap.size) := hG
  have x0 : V.cell? ⟨G, 0, none⟩ = some (.int .i64 N) := by rw [hVe, hG]; simp
  have x1 : V.cell? ⟨G, 1, none⟩ = some (.slice a l c) := by rw [hVe, hG]; simp
  rw [← hVe] at hb
  have HB : Hid (Below w.heap.size w V ∧ TzTab V) := ⟨hb, hT.below hb⟩
  have HN : Hid (Nums V a l c ws) := h.below hb
  have HC := (show Hid _ from x14right_any N a l c ws V hN (h.below hb))
  have hcap := h.hcap
  have hmax := h.hmax
  unfold maxLen at hmax
  clear hb h hVe hG hT
  go_enter Tryd.func6, Tryd.ntmps6
  go_upto_region 1 with fail
  rw [← HVe.out, ← HG.out]
  clear HVe HG
  go_wp2_with fail
  refine Calls.mono HC.out ?_
  rintro e w1 ⟨b, rfl, hbr, hb1⟩
  replace x0 := bkeep hb1 x0 rfl
  replace x1 := bkeep hb1 x1 rfl
  have HB1 : Hid (Below w.heap.size w w1 ∧ Nums w1 a l c ws ∧ TzTab w1) := ⟨bthen HB.out.1 hb1, HN.out.below hb1, HB.out.2.below hb1⟩
  have HR : Hid (b = true ↔ RightS N ws) := hbr
  clear HC hbr hb1 HN HB
  dsimp only
  cases b with
  | false =>
    have HF : Hid (ResList N ws []) := .inr ⟨fun e => (by have := HR.out.2 e; cases this), rfl⟩
    clear HR
    go_wp2
    go_ret
    exact ⟨[], none, 0, rfl, Lsts.nil _, HF.out, HB1.out.1⟩
  | true =>
  have hRt : RightS N ws := HR.out.1 rfl
  obtain ⟨M, rfl⟩ : ∃ M : Nat, N = (M : Int) := ⟨N.toNat, by have := hRt.lo; omega⟩
  have HLn : Hid (ws.length = l) := HB1.out.2.1.hlen
  have hl2 : l ≤ 1024 := by have := hRt.len; have := hRt.hi; have := HLn.out; omega
  have HA : Hid (numsOfS (64 * l) (wbit ws) = numsOfS M (wbit ws)) := by show _ = _; rw [← HLn.out]; exact hRt.all14
  have HRt : Hid (RightS (M : Int) ws) := hRt
  clear hRt HR
  go_wp2
  go_loopw [3, 12] (fun v3 v12 wr => ∃ k : Nat, k ≤ l ∧ v12 = .int .i64 (k : Int) ∧ IOwn wr w1.heap.size v3 (ints (numsOfS (64 * k) (wbit ws))) ∧ Below w1.heap.size w1 wr) (fun _ v12 _ => l - (intOf v12).toNat)
  case atStart => exact ⟨0, Nat.zero_le _, rfl, IOwn.nil _ _, Below.refl _ _⟩
  case round =>
    obtain ⟨k, hk, rfl, hO, hbr⟩ := hrel
    replace x0 := bkeep hbr x0 rfl
    replace x1 := bkeep hbr x1 rfl
    by_cases hlt : k < l
    · have hlti : (k : Int) < (l : Int) := by omega
      have hk0 : (0 : Int) ≤ (k : Int) := by omega
      obtain ⟨b, off, m, rfl, hc, hm, hml⟩ := word_at (HB1.out.2.1.below hbr) hlt
      have HL0 : Hid (Left14 ws k (64 * k) m ∧ k < l) := ⟨by rw [hm]; exact Left14.start HB1.out.2.1.word k, hlt⟩
      have HO : Hid (IOwn wr w1.heap.size u3 (ints (numsOfS (64 * k) (wbit ws))) ∧ Below w1.heap.size w1 wr) := ⟨hO, hbr⟩
      clear hm hlt hO hbr
      go_wp2
      go_loopw [3, 5] (fun v3 v5 wi => ∃ x t : Nat, v5 = .int .u64 (x : Int) ∧ Hid (Left14 ws k t x) ∧ t ≤ 64 * k + 64 ∧ IOwn wi w1.heap.size v3 (ints (numsOfS t (wbit ws))) ∧ Below w1.heap.size w1 wi) (fun _ v5 _ => (intOf v5).toNat)
      case atStart => exact ⟨m, 64 * k, rfl, HL0.out.1, by omega, HO.out.1, HO.out.2⟩
      case round =>
        obtain ⟨x, t, rfl, HL, ht64, hO, hbi⟩ := hrel
        clear HO
        by_cases hz : x = 0
        · subst hz
          have HE : Hid (IOwn wr w1.heap.size u3 (ints (numsOfS (64 * (k + 1)) (wbit ws))) ∧ Below w1.heap.size w1 wr) := ⟨by rw [HL.out.nil]; exact hO, hbi⟩
          clear hO hbi HL
          go_wp2
          refine ⟨⟨k + 1, HL0.out.2, by go_num, HE.out.1, HE.out.2⟩, ?_⟩
          have := HL0.out.2
          simp [intOf]
          omega
        · have hxl := HL.out.lt
          have hdz : ((x : Int) != 0) = true := by simp; omega
          have hdz2 : ((x : Int) == 0) = false := by simp; omega
          have HC2 : Hid (Calls Tryd.prog 17 #[.int .u64 (x : Int)] wr fun e w' => (∃ d s : Nat, e = .returned (.int .i64 (s : Int)) ∧ x = d * 2 ^ s ∧ d % 2 = 1 ∧ s < 64) ∧ wr = w') := (tz64_any x hxl hz wr (HB1.out.2.2.below hbi)).mono fun e w' q => ⟨q.1, q.2.symm⟩
          have HO : Hid (IOwn wr w1.heap.size u3 (ints (numsOfS t (wbit ws))) ∧ Below w1.heap.size w1 wr) := ⟨hO, hbi⟩
          have HZ : Hid (0 < x) := Nat.pos_of_ne_zero hz
          clear hO hbi hxl hz
          go_wp2_with fail
          refine Calls.mono HC2.out ?_
          rintro e w2 ⟨⟨d, s, rfl, hd1, hd2, hs⟩, rfl⟩
          obtain ⟨hn1, hn2⟩ := HL.out.next hd1 hd2 hs
          obtain ⟨p, hp⟩ : ∃ p, p = 64 * k + s := ⟨_, rfl⟩
          rw [← hp] at hn1 hn2
          have hpi : (k : Int) * 64 + (s : Int) = (p : Int) := by omega
          obtain ⟨y, hy⟩ : ∃ y, y = x - 1 := ⟨_, rfl⟩
          have hx0 := HZ.out
          have hyi : (x : Int) - 1 = (y : Int) := by omega
          have hxl := HL.out.lt
          have hand := bits_and_u64_nat x y hxl (by omega)
          rw [← hy] at hn1
          obtain ⟨z, hz⟩ : ∃ z, z = x &&& y := ⟨_, rfl⟩
          rw [← hz] at hn1 hand
          have hzx : z < x := by
            have : z ≤ y := by rw [hz]; exact Nat.and_le_right
            omega
          have hwy : IntKind.u64.wrap (y : Int) = (y : Int) := u64_lit _ (Int.natCast_nonneg _) (by omega)
          have HNx : Hid (Left14 ws k (p + 1) z ∧ numsOfS (p + 1) (wbit ws) = numsOfS t (wbit ws) ++ [p] ∧ p + 1 ≤ 64 * k + 64 ∧ z < x) := ⟨hn1, hn2, by omega, hzx⟩
          have hlit := balloc wr (.cells #[.int .i64 (p : Int)] 3)
          have hO3 := HO.out.1.alloc (.cells #[.int .i64 (p : Int)] 3)
          have hln := numsOfS_len t (wbit ws)
          have hlen : (ints (numsOfS t (wbit ws))).length < 1000000 := by rw [ints_len]; omega
          have HB3 : Hid (Below w1.heap.size w1 (wr.alloc (.cells #[.int .i64 (p : Int)] 3))) := bthen HO.out.2 hlit
          have hbs : w1.heap.size ≤ (wr.alloc (.cells #[.int .i64 (p : Int)] 3)).heap.size := HB3.out.size
          have hpb : p < 70000 := by omega
          clear HC2 hd1 hd2 hn1 hn2 hp hy hx0 hxl hz hzx hlit hln HO HL
          dsimp only
          go_wp2_with (at_builtin; refine wpList_appI1 _ rfl _ _ 26 rfl Tryd.underlying26 w1.heap.size _ _ rfl hO3 ⟨wr.heap.size, 0, none⟩ (p : Int) rfl ?c1 hlen hbs ?_)
          case c1 => simp
          intro v5 w5 hO5 hg5
          have HB5 : Hid (Below w1.heap.size w1 w5) := HB3.out.trans ⟨hg5.os, hg5.tape, hg5.output, hg5.size, fun q hq => hg5.block q (Nat.lt_of_lt_of_le hq hbs) (fun e => by have := (World.ownsRow.lt hO3 q e.symm).1; omega)⟩
          have HO5 : Hid (IOwn w5 w1.heap.size v5 (ints (numsOfS (p + 1) (wbit ws)))) := by show IOwn _ _ _ _; rw [HNx.out.2.1, show ints (numsOfS t (wbit ws) ++ [p]) = ints (numsOfS t (wbit ws)) ++ [(p : Int)] by simp [ints]]; exact hO5
          clear hO3 hO5 hg5 HB3 hbs hlen
          go_wp2
          go_roundw
          case rel => exact ⟨z, p + 1, rfl, HNx.out.1, HNx.out.2.2.1, HO5.out, HB5.out⟩
          case measure => have := HNx.out.2.2.2; simp [intOf]; omega
    · have hkd : decide (k < l) = false := decide_eq_false hlt
      have HE : Hid (IOwn wr w1.heap.size u3 (ints (numsOfS M (wbit ws))) ∧ Below w.heap.size w wr) := ⟨by rw [← HA.out, show l = k by omega]; exact hO, bthen HB1.out.1 hbr⟩
      clear hlt hO hbr
      go_wp2
      go_ret
      obtain ⟨p, q, e, hL, -⟩ := HE.out.1.lsts (fun x hx => by
        obtain ⟨n, hn, rfl⟩ := List.mem_map.1 hx
        have := ((numsOfS_mem _ _ _).1 hn).1
        have := HRt.out.hi
        omega)
      rw [ints_len] at e hL
      exact ⟨_, p, q, by rw [e]; rfl, hL, .inl ⟨HRt.out, rfl⟩, HE.out.2⟩
end Go.Proofs.YtfgccldkbolkoaaDoor

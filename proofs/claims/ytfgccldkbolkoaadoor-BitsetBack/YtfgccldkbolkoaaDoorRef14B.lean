/-
  The document's sets: contracts of Has, List, Count, Same.
-/
import Derived.Test.YtfgccldkbolkoaaDoorRef14A
import Derived.BigQuiet
namespace Go.Proofs.YtfgccldkbolkoaaDoor
open Go.RowKit

/-- What a call that tells whether a number is in a set makes. -/
def HasT14 (N : Int) (ws : List Int) (i : Int) (w : World) (e : Ending) (w' : World) : Prop := ∃ b, e = .returned (.bool b) ∧ ResHas N ws i b ∧ Below w.heap.size w w'
set_option maxRecDepth 20000 in
set_option maxHeartbeats 3200000 in
theorem r14has_any (N : Int) (a : Option Addr) (l c : Nat) (ws : List Int) (i : Int) (w : World) (hN : -9223372036854775808 ≤ N ∧ N < 9223372036854775808) (h : Nums w a l c ws) :
    Calls Tryd.prog 12 #[.agg #[.int .i64 N, .slice a l c], .int .i64 i] w fun e w' => HasT14 N ws i w e w' := by
  have hb := balloc w (.cells #[.int .i64 N, .slice a l c] 24)
  obtain ⟨V, hVe⟩ : ∃ V, V = w.alloc (.cells #[.int .i64 N, .slice a l c] 24) := ⟨_, rfl⟩
  have HVe : Hid (V = w.alloc (.cells #[.int .i64 N, .slice a l c] 24)) := hVe
  obtain ⟨G, hG⟩ : ∃ G, G = w.heap.size := ⟨_, rfl⟩
  have HG : Hid (G = w.heap.size) := hG
  have x0 : V.cell? ⟨G, 0, none⟩ = some (.int .i64 N) := by rw [hVe, hG]; simp
  have x1 : V.cell? ⟨G, 1, none⟩ = some (.slice a l c) := by rw [hVe, hG]; simp
  rw [← hVe] at hb
  have HB : Hid (Below w.heap.size w V) := hb
  have HN : Hid (Nums V a l c ws) := h.below hb
  have HC := (show Hid _ from r14right_any N a l c ws V hN (h.below hb))
  clear hb h hVe hG
  go_enter Tryd.func12, Tryd.ntmps12
  go_upto_region 1 with fail
  rw [← HVe.out, ← HG.out]
  clear HVe HG
  go_wp2_with fail
  refine Calls.mono HC.out ?_
  rintro e w1 ⟨b, rfl, hbr, hb1⟩
  replace x0 := bkeep hb1 x0 rfl
  replace x1 := bkeep hb1 x1 rfl
  have HB1 : Hid (Below w.heap.size w w1 ∧ Below V.heap.size V w1) := ⟨bthen HB.out hb1, hb1⟩
  have HR : Hid (b = true ↔ RightS N ws) := hbr
  clear HC hbr hb1
  dsimp only
  have no : ∀ {p : Prop}, p → (p → ¬ (RightS N ws ∧ 0 ≤ i ∧ i < N ∧ wbit ws i.toNat = true)) → ResHas N ws i false := fun p q => ⟨fun e => (by cases e), fun e => absurd e (q p)⟩
  cases b with
  | false =>
    have HF : Hid (ResHas N ws i false) := no trivial (fun _ e => by have := HR.out.2 e.1; cases this)
    clear no
    go_wp2
    go_ret
    exact ⟨false, rfl, HF.out, HB1.out.1⟩
  | true =>
  have hRt : RightS N ws := HR.out.1 rfl
  by_cases i1 : i < 0
  · have d1 : decide (i < 0) = true := decide_eq_true i1
    have HF : Hid (ResHas N ws i false) := no i1 (fun _ e => by omega)
    clear no i1 hRt
    go_wp2
    go_ret
    exact ⟨false, rfl, HF.out, HB1.out.1⟩
  have d1 : decide (i < 0) = false := decide_eq_false i1
  by_cases i2 : N ≤ i
  · have d2 : decide (N ≤ i) = true := decide_eq_true i2
    have HF : Hid (ResHas N ws i false) := no i2 (fun _ e => by omega)
    clear no i1 i2 hRt
    go_wp2
    go_ret
    exact ⟨false, rfl, HF.out, HB1.out.1⟩
  have d2 : decide (N ≤ i) = false := decide_eq_false i2
  obtain ⟨k, rfl⟩ : ∃ k : Nat, i = (k : Int) := ⟨i.toNat, by omega⟩
  have h1 := hRt.len
  have h2 := hRt.hi
  have h3 := HN.out.hlen
  have HC2 := (show Hid _ from r14bit_any N a l c ws k w1 (HN.out.below HB1.out.2) (by omega) (by omega))
  have HI : Hid (RightS N ws ∧ (k : Int) < N) := ⟨hRt, by omega⟩
  clear no i1 i2 hRt h1 h2 h3
  go_wp2_with fail
  refine Calls.mono HC2.out ?_
  rintro e w2 ⟨rfl, hb2⟩
  have HF : Hid (ResHas N ws (k : Int) (wbit ws k) ∧ Below w.heap.size w w2) := ⟨⟨fun e => ⟨HI.out.1, by omega, HI.out.2, e⟩, fun e => e.2.2.2⟩, bthen HB1.out.1 hb2⟩
  obtain ⟨z, hz⟩ : ∃ z, z = wbit ws k := ⟨_, rfl⟩
  rw [← hz] at HF
  rw [← hz]
  clear HC2 hb2 hz
  dsimp only
  go_wp2
  go_ret
  exact ⟨z, rfl, HF.out.1, HF.out.2⟩
set_option maxRecDepth 20000 in
set_option maxHeartbeats 3200000 in
theorem r14list_any (N : Int) (a : Option Addr) (l c : Nat) (ws : List Int) (w : World) (hN : -9223372036854775808 ≤ N ∧ N < 9223372036854775808) (h : Nums w a l c ws) :
    Calls Tryd.prog 8 #[.agg #[.int .i64 N, .slice a l c]] w fun e w' => ∃ ns p q, e = .returned (.slice p (ns : List Nat).length q) ∧ Lsts w' p ns.length q (ints ns) ∧ ResList N ws ns ∧ Below w.heap.size w w' := by
  have hb := balloc w (.cells #[.int .i64 N, .slice a l c] 24)
  obtain ⟨V, hVe⟩ : ∃ V, V = w.alloc (.cells #[.int .i64 N, .slice a l c] 24) := ⟨_, rfl⟩
  have HVe : Hid (V = w.alloc (.cells #[.int .i64 N, .slice a l c] 24)) := hVe
  obtain ⟨G, hG⟩ : ∃ G, G = w.heap.size := ⟨_, rfl⟩
  have HG : Hid (G = w.heap.size) := hG
  have x0 : V.cell? ⟨G, 0, none⟩ = some (.int .i64 N) := by rw [hVe, hG]; simp
  have x1 : V.cell? ⟨G, 1, none⟩ = some (.slice a l c) := by rw [hVe, hG]; simp
  rw [← hVe] at hb
  have HB : Hid (Below w.heap.size w V) := hb
  have HN : Hid (Nums V a l c ws) := h.below hb
  have HC := (show Hid _ from r14right_any N a l c ws V hN (h.below hb))
  clear hb h hVe hG
  go_enter Tryd.func8, Tryd.ntmps8
  go_upto_region 1 with fail
  rw [← HVe.out, ← HG.out]
  clear HVe HG
  go_wp2_with fail
  refine Calls.mono HC.out ?_
  rintro e w1 ⟨b, rfl, hbr, hb1⟩
  replace x0 := bkeep hb1 x0 rfl
  replace x1 := bkeep hb1 x1 rfl
  have HB1 : Hid (Below w.heap.size w w1 ∧ Below V.heap.size V w1) := ⟨bthen HB.out hb1, hb1⟩
  have HR : Hid (b = true ↔ RightS N ws) := hbr
  clear HC hbr hb1
  dsimp only
  cases b with
  | false =>
    have HF : Hid (ResList N ws []) := .inr ⟨fun e => (by have := HR.out.2 e; cases this), rfl⟩
    go_wp2
    go_loopw [4, 5] (fun v4 v5 wr => v4 = .slice none 0 0 ∧ v5 = .int .i64 0 ∧ w1 = wr) (fun _ _ _ => 0)
    case atStart => exact ⟨rfl, rfl, by trivial⟩
    case round =>
      obtain ⟨rfl, rfl, rfl⟩ := hrel
      go_wp2
      go_ret
      exact ⟨[], none, 0, rfl, Lsts.nil _, HF.out, HB1.out.1⟩
  | true =>
  have hRt : RightS N ws := HR.out.1 rfl
  obtain ⟨M, rfl⟩ : ∃ M : Nat, N = (M : Int) := ⟨N.toNat, by have := hRt.lo; omega⟩
  have h2 : M ≤ 65536 := by have := hRt.hi; omega
  have h3 : M ≤ 64 * l := by have := hRt.len; have := HN.out.hlen; omega
  have HRt : Hid (RightS (M : Int) ws) := hRt
  clear hRt
  go_wp2
  go_loopw [4, 5] (fun v4 v5 wr => ∃ k : Nat, v5 = .int .i64 (k : Int) ∧ k ≤ M ∧ IOwn wr w1.heap.size v4 (ints (numsOfS k (wbit ws))) ∧ Below w1.heap.size w1 wr) (fun _ v5 _ => M - (intOf v5).toNat)
  case atStart => exact ⟨0, rfl, Nat.zero_le _, IOwn.nil _ _, Below.refl _ _⟩
  case round =>
    obtain ⟨k, rfl, hk, hO, hbr⟩ := hrel
    replace x0 := bkeep hbr x0 rfl
    replace x1 := bkeep hbr x1 rfl
    have hl := numsOfS_len k (wbit ws)
    by_cases hlt : k < M
    · have hkd : decide (k < M) = true := decide_eq_true hlt
      have HC2 := (show Hid _ from r14bit_any (M : Int) a l c ws k wr (HN.out.below (bthen HB1.out.2 hbr)) (by omega) (by omega))
      have HL : Hid (k < M) := hlt
      have HO : Hid (IOwn wr w1.heap.size u4 (ints (numsOfS k (wbit ws))) ∧ Below w1.heap.size w1 wr) := ⟨hO, hbr⟩
      clear hlt hO hbr
      go_wp2_with fail
      refine Calls.mono HC2.out ?_
      rintro e w2 ⟨rfl, hb2⟩
      obtain ⟨z, hz⟩ : ∃ z, z = wbit ws k := ⟨_, rfl⟩
      rw [← hz]
      have HNx : Hid (numsOfS (k + 1) (wbit ws) = if z = true then numsOfS k (wbit ws) ++ [k] else numsOfS k (wbit ws)) := by show _ = _; rw [hz]; exact numsOfS_next k _
      have hO2 : IOwn w2 w1.heap.size u4 (ints (numsOfS k (wbit ws))) := World.ownsRow.kept HO.out.1 (grown_of_below hb2 none) (by cases u4.ownBlock <;> simp)
      have hB2 := bthen HO.out.2 hb2
      clear HC2 hb2 hz HO x0 x1
      dsimp only
      cases z with
      | false =>
        have HN2 : Hid (numsOfS (k + 1) (wbit ws) = numsOfS k (wbit ws)) := HNx.out
        clear HNx
        go_wp2
        go_roundw
        case rel => exact ⟨k + 1, by go_num, HL.out, by rw [HN2.out]; exact hO2, hB2⟩
        case measure => have := HL.out; simp [intOf]; omega
      | true =>
        have HN2 : Hid (numsOfS (k + 1) (wbit ws) = numsOfS k (wbit ws) ++ [k]) := HNx.out
        have hlit := balloc w2 (.cells #[.int .i64 (k : Int)] 3)
        have hO3 := hO2.alloc (.cells #[.int .i64 (k : Int)] 3)
        have hlen : (ints (numsOfS k (wbit ws))).length < 1000000 := by rw [ints_len]; omega
        have HB3 : Hid (Below w1.heap.size w1 (w2.alloc (.cells #[.int .i64 (k : Int)] 3))) := bthen hB2 hlit
        have hbs : w1.heap.size ≤ (w2.alloc (.cells #[.int .i64 (k : Int)] 3)).heap.size := HB3.out.size
        clear HNx hO2 hB2 hlit hl
        go_wp2_with (at_builtin; refine wpList_appI1 _ rfl _ _ 26 rfl Tryd.underlying26 w1.heap.size _ _ rfl hO3 ⟨w2.heap.size, 0, none⟩ (k : Int) rfl ?c1 hlen hbs ?_)
        case c1 => simp
        intro v5 w5 hO5 hg5
        have HB5 : Hid (Below w1.heap.size w1 w5) := HB3.out.trans ⟨hg5.os, hg5.tape, hg5.output, hg5.size, fun q hq => hg5.block q (Nat.lt_of_lt_of_le hq hbs) (fun e => by have := (World.ownsRow.lt hO3 q e.symm).1; omega)⟩
        have HO5 : Hid (IOwn w5 w1.heap.size v5 (ints (numsOfS (k + 1) (wbit ws)))) := by show IOwn _ _ _ _; rw [HN2.out, show ints (numsOfS k (wbit ws) ++ [k]) = ints (numsOfS k (wbit ws)) ++ [(k : Int)] by simp [ints]]; exact hO5
        clear hO3 hO5 hg5 HB3 hbs hlen
        go_wp2
        go_roundw
        case rel => exact ⟨k + 1, by go_num, HL.out, HO5.out, HB5.out⟩
        case measure => have := HL.out; simp [intOf]; omega
    · have hkd : decide (k < M) = false := decide_eq_false hlt
      have HE : Hid (IOwn wr w1.heap.size u4 (ints (numsOfS M (wbit ws))) ∧ Below w.heap.size w wr) := ⟨by rw [show M = k by omega]; exact hO, bthen HB1.out.1 hbr⟩
      clear hl hlt hO hbr
      go_wp2
      go_ret
      obtain ⟨p, q, e, hL, -⟩ := HE.out.1.lsts (fun x hx => by
        obtain ⟨n, hn, rfl⟩ := List.mem_map.1 hx
        have := ((numsOfS_mem _ _ _).1 hn).1
        omega)
      rw [ints_len] at e hL
      exact ⟨_, p, q, by rw [e]; rfl, hL, .inl ⟨HRt.out, rfl⟩, HE.out.2⟩
set_option maxRecDepth 20000 in
set_option maxHeartbeats 1600000 in
theorem r14count_any (N : Int) (a : Option Addr) (l c : Nat) (ws : List Int) (w : World) (hN : -9223372036854775808 ≤ N ∧ N < 9223372036854775808) (h : Nums w a l c ws) :
    Calls Tryd.prog 14 #[.agg #[.int .i64 N, .slice a l c]] w fun e w' => ∃ ns : List Nat, e = .returned (.int .i64 (ns.length : Int)) ∧ ResList N ws ns ∧ Below w.heap.size w w' := by
  have hb := balloc w (.cells #[.int .i64 N, .slice a l c] 24)
  have HC := (show Hid _ from r14list_any N a l c ws _ hN (h.below hb))
  have HB := (show Hid _ from hb)
  clear h hb
  go_enter Tryd.func14, Tryd.ntmps14
  go_wp2_with fail
  refine Calls.mono HC.out ?_
  rintro e w1 ⟨ns, p, q, rfl, hL, hR, hb⟩
  have hcap := hL.hcap
  have hmax := hL.hmax
  unfold maxLen at hmax
  have HF : Hid (ResList N ws ns ∧ Below w.heap.size w w1) := ⟨hR, bthen HB.out hb⟩
  obtain ⟨n, hn⟩ : ∃ n, n = ns.length := ⟨_, rfl⟩
  have HNs : Hid (n = ns.length) := hn
  rw [← hn]
  rw [← hn] at hcap
  clear HC HB hL hR hb hn
  dsimp only
  go_wp2
  go_ret
  exact ⟨ns, by rw [← HNs.out]; rfl, HF.out.1, HF.out.2⟩
set_option maxRecDepth 20000 in
set_option maxHeartbeats 3200000 in
theorem r14same_any (N M : Int) (a b : Option Addr) (la ca lb cb : Nat) (ws vs : List Int) (w : World) (hx : Nums w a la ca ws) (hy : Nums w b lb cb vs) :
    Calls Tryd.prog 16 #[.agg #[.int .i64 N, .slice a la ca], .agg #[.int .i64 M, .slice b lb cb]] w fun e w' => e = .returned (.bool (decide (N = M) && decide (ws = vs))) ∧ Below w.heap.size w w' := by
  have hV := bthen (balloc w (.cells #[.int .i64 N, .slice a la ca] 24)) (balloc (w.alloc (.cells #[.int .i64 N, .slice a la ca] 24)) (.cells #[.int .i64 M, .slice b lb cb] 24))
  obtain ⟨V, hVe⟩ : ∃ V, V = (w.alloc (.cells #[.int .i64 N, .slice a la ca] 24)).alloc (.cells #[.int .i64 M, .slice b lb cb] 24) := ⟨_, rfl⟩
  have HVe : Hid (V = (w.alloc (.cells #[.int .i64 N, .slice a la ca] 24)).alloc (.cells #[.int .i64 M, .slice b lb cb] 24)) := hVe
  obtain ⟨G, hG⟩ : ∃ G, G = w.heap.size := ⟨_, rfl⟩
  have HG : Hid (G = w.heap.size) := hG
  have x0 : V.cell? ⟨G, 0, none⟩ = some (.int .i64 N) := by rw [hVe, hG]; simp
  have x1 : V.cell? ⟨G, 1, none⟩ = some (.slice a la ca) := by rw [hVe, hG]; simp
  have y0 : V.cell? ⟨G + 1, 0, none⟩ = some (.int .i64 M) := by rw [hVe, hG]; simp
  have y1 : V.cell? ⟨G + 1, 1, none⟩ = some (.slice b lb cb) := by rw [hVe, hG]; simp
  rw [← hVe] at hV
  have HB : Hid (Below w.heap.size w V) := hV
  have m1 := hx.hcap
  have m2 := hx.hmax
  have m3 := hy.hcap
  have m4 := hy.hmax
  unfold maxLen at m2 m4
  have HL : Hid (ws.length = la ∧ vs.length = lb) := ⟨hx.hlen, hy.hlen⟩
  have HX : Hid (Nums V a la ca ws ∧ Nums V b lb cb vs) := ⟨hx.below hV, hy.below hV⟩
  obtain ⟨D, hD⟩ : ∃ D, D = (decide (N = M) && decide (ws = vs)) := ⟨_, rfl⟩
  have HD : Hid (D = (decide (N = M) && decide (ws = vs))) := hD
  rw [← hD]
  clear hx hy hV hVe hG hD
  go_enter Tryd.func16, Tryd.ntmps16
  go_upto_region 1 with fail
  rw [← HVe.out, ← HG.out]
  clear HVe HG
  by_cases h1 : N = M
  case neg =>
    have k1 : (N != M) = true := by simp [h1]
    have k2 : (N == M) = false := by simp [h1]
    have HF : Hid (D = false) := by show _ = _; rw [HD.out]; simp [h1]
    clear HD h1
    go_wp2
    go_ret
    exact ⟨by rw [HF.out]; rfl, HB.out⟩
  subst h1
  have k1 : (N != N) = false := by simp
  have k2 : (N == N) = true := by simp
  by_cases h2 : la = lb
  case neg =>
    have k3 : ((la : Int) != (lb : Int)) = true := by simp; omega
    have k4 : ((la : Int) == (lb : Int)) = false := by simp; omega
    have HF : Hid (D = false) := by
      show _ = _
      rw [HD.out, decide_eq_false (fun e : ws = vs => h2 (by rw [← HL.out.1, ← HL.out.2, e]))]
      simp
    clear HD h2
    go_wp2
    go_ret
    exact ⟨by rw [HF.out]; rfl, HB.out⟩
  subst h2
  have k3 : ((la : Int) != (la : Int)) = false := by simp
  go_wp2
  go_loopw [5] (fun v5 wr => ∃ k : Nat, v5 = .int .i64 (k : Int) ∧ k ≤ la ∧ Hid (∀ j, j < k → ws.getD j 0 = vs.getD j 0) ∧ Hid (Below V.heap.size V wr)) (fun v5 _ => la - (intOf v5).toNat)
  case atStart => exact ⟨0, rfl, Nat.zero_le _, fun j hj => absurd hj (Nat.not_lt_zero _), Below.refl _ _⟩
  case round =>
    obtain ⟨k, rfl, hk, HJ, HBr⟩ := hrel
    replace x1 := bkeep HBr.out x1 rfl
    replace y1 := bkeep HBr.out y1 rfl
    clear x0 y0
    by_cases hlt : k < la
    · have hlti : (k : Int) < (la : Int) := by omega
      have hk0 : (0 : Int) ≤ (k : Int) := by omega
      have hkd : decide (k < la) = true := decide_eq_true hlt
      obtain ⟨b1, o1, rfl, c1⟩ := (HX.out.1.below HBr.out).cells (by omega)
      obtain ⟨b2, o2, rfl, c2⟩ := (HX.out.2.below HBr.out).cells (by omega)
      replace c1 := c1 k hlt
      replace c2 := c2 k hlt
      obtain ⟨x, hx⟩ : ∃ x, x = ws.getD k 0 := ⟨_, rfl⟩
      obtain ⟨y, hy⟩ : ∃ y, y = vs.getD k 0 := ⟨_, rfl⟩
      rw [← hx] at c1
      rw [← hy] at c2
      have HXY : Hid (x = ws.getD k 0 ∧ y = vs.getD k 0 ∧ k < la) := ⟨hx, hy, hlt⟩
      clear hx hy hlt
      by_cases hxy : x = y
      · have q1 : (x != y) = false := by simp [hxy]
        have HJ2 : Hid (∀ j, j < k + 1 → ws.getD j 0 = vs.getD j 0) := fun j hj => by
          by_cases e : j = k
          · rw [e, ← HXY.out.1, ← HXY.out.2.1, hxy]
          · exact HJ.out j (by omega)
        clear HJ hxy
        go_wp2_with fail
        go_quiet (fail)
        go_wp2
        go_roundw
        case rel => exact ⟨k + 1, by go_num, HXY.out.2.2, HJ2.out, below_drewN HBr.out _⟩
        case measure => have := HXY.out.2.2; simp [intOf]; omega
      · have q1 : (x != y) = true := by simp [hxy]
        have HF : Hid (D = false) := by
          show _ = _
          rw [HD.out, decide_eq_false (fun e : ws = vs => hxy (by rw [HXY.out.1, HXY.out.2.1, e]))]
          simp
        clear HJ hxy
        go_wp2_with fail
        go_quiet (fail)
        go_wp2
        go_ret
        exact ⟨by rw [HF.out]; rfl, below_drewN (bthen HB.out HBr.out) _⟩
    · obtain rfl : k = la := by omega
      have hkd : decide (k < k) = false := decide_eq_false (by omega)
      have HF : Hid (D = true) := by
        show _ = _
        rw [HD.out, decide_eq_true (ext_getD (d := 0) (by rw [HL.out.1, HL.out.2]) (fun j hj => HJ.out j (by rw [← HL.out.1]; exact hj)) : ws = vs)]
        simp
      clear HJ hlt
      go_wp2
      go_ret
      exact ⟨by rw [HF.out]; rfl, bthen HB.out HBr.out⟩
end Go.Proofs.YtfgccldkbolkoaaDoor

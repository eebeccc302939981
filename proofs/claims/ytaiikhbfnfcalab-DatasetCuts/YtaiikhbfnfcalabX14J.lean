/-
  The program's sets: two put together; And, Or, Minus.
-/
import Derived.Test.YtaiikhbfnfcalabBX14A
import Derived.Test.YtaiikhbfnfcalabR14F
import Derived.Laws.EntriesVeiled
import Derived.Deep.RegionHeld3
namespace Go.Proofs.Ytaiikhbfnfcalab
open Go.RowKit

/-- Words put together, the first k of them. -/
structure Joins14 (F : Nat → Nat → Nat) (ws vs : List Int) (k : Nat) (us : List Int) : Prop where
  dig : Digs 18446744073709551616 us
  at' : ∀ j, j < k → us.getD j 0 = ((F (ws.getD j 0).toNat (vs.getD j 0).toNat : Nat) : Int)
theorem Joins14.zero (F : Nat → Nat → Nat) (ws vs : List Int) (q : Nat) : Joins14 F ws vs 0 (noughts q) := ⟨fun x hx => by unfold noughts at hx; rw [List.eq_of_mem_replicate hx]; omega, fun j hj => absurd hj (Nat.not_lt_zero _)⟩
theorem Joins14.more {F : Nat → Nat → Nat} {ws vs : List Int} {k : Nat} {us : List Int} (h : Joins14 F ws vs k us) (hk : k < us.length) (hF : F (ws.getD k 0).toNat (vs.getD k 0).toNat < 18446744073709551616) : Joins14 F ws vs (k + 1) (us.set k ((F (ws.getD k 0).toNat (vs.getD k 0).toNat : Nat) : Int)) := ⟨digs_set h.dig k hF, fun j hj => by
  rw [getD_set hk]
  by_cases c : j = k
  · rw [if_pos c, c]
  · rw [if_neg c]
    exact h.at' j (by omega)⟩
theorem Joins14.set {F : Nat → Nat → Nat} {op : Bool → Bool → Bool} {ws vs us : List Int} {m : Nat} (h : Joins14 F ws vs us.length us) (hF : ∀ x y : Nat, x < 18446744073709551616 → y < 18446744073709551616 → ∀ j, (F x y).testBit j = op (x.testBit j) (y.testBit j)) (h0 : op false false = false)
    (hw : RightS (m : Int) ws) (hv : RightS (m : Int) vs) (dw : Digs 18446744073709551616 ws) (dv : Digs 18446744073709551616 vs) (hl : us.length = (m + 63) / 64) : IsSet m (fun i => op (wbit ws i) (wbit vs i)) us := IsSet.of_words hl h.dig (fun q hq j hj => by
  have e1 := digs_getD dw q
  have e2 := digs_getD dv q
  have l1 := hw.len
  have l2 := hv.len
  have b1 : ws.length = (m + 63) / 64 := by omega
  have b2 : vs.length = (m + 63) / 64 := by omega
  rw [h.at' q hq, Int.toNat_natCast, hF _ _ ((Int.toNat_lt e1.1).2 e1.2) ((Int.toNat_lt e2.1).2 e2.2), ← wbit_at ws q j hj, ← wbit_at vs q j hj]
  by_cases c : 64 * q + j < m
  · rw [decide_eq_true c, Bool.true_and]
  · rw [decide_eq_false c, Bool.false_and, hw.top _ (by omega) (by omega), hv.top _ (by omega) (by omega)]
    exact h0)
theorem keep5 {W : World} {p q r s t : Addr} {x y z u v : Value} (h : W.cell? p = some x ∧ W.cell? q = some y ∧ W.cell? r = some z ∧ W.cell? s = some u ∧ W.cell? t = some v) : W.drew.cell? p = some x ∧ W.drew.cell? q = some y ∧ W.drew.cell? r = some z ∧ W.drew.cell? s = some u ∧ W.drew.cell? t = some v := h
set_option maxRecDepth 20000 in
set_option maxHeartbeats 12800000 in
theorem x14tog_any (k : Nat) (F : Nat → Nat → Nat) (op : Bool → Bool → Bool) (hE : ∀ (args : Array Value) (w : World), (callFunc k args).run Try.prog w = .ok (.enter k args) w)
    (hC : ∀ (x y : Nat) (w : World), x < 18446744073709551616 → y < 18446744073709551616 → Calls Try.prog k #[.int .u64 (x : Int), .int .u64 (y : Int)] w fun e w' => e = .returned (.int .u64 ((F x y : Nat) : Int)) ∧ w = w')
    (hF : ∀ x y : Nat, x < 18446744073709551616 → y < 18446744073709551616 → ∀ j, (F x y).testBit j = op (x.testBit j) (y.testBit j)) (hF2 : ∀ x y : Nat, x < 18446744073709551616 → y < 18446744073709551616 → F x y < 18446744073709551616) (h0 : op false false = false)
    (M K : Int) (a b : Option Addr) (la ca lb cb : Nat) (ws vs : List Int) (w : World) (hM : -9223372036854775808 ≤ M ∧ M < 9223372036854775808) (hK : -9223372036854775808 ≤ K ∧ K < 9223372036854775808) (hx : Nums w a la ca ws) (hy : Nums w b lb cb vs) :
    Calls Try.prog 12 #[.agg #[.int .i64 M, .slice a la ca], .agg #[.int .i64 K, .slice b lb cb], .func (.func k) #[] #[]] w fun e w' => JoinT14 op M ws K vs w e w' := by
  have hV := bthen (balloc w (.cells #[.int .i64 M, .slice a la ca] 30)) (balloc (w.alloc (.cells #[.int .i64 M, .slice a la ca] 30)) (.cells #[.int .i64 K, .slice b lb cb] 30))
  obtain ⟨V, hVe⟩ : ∃ V, V = (w.alloc (.cells #[.int .i64 M, .slice a la ca] 30)).alloc (.cells #[.int .i64 K, .slice b lb cb] 30) := ⟨_, rfl⟩
  obtain ⟨G, hG⟩ : ∃ G, G = w.heap.size := ⟨_, rfl⟩
  have HG : Hid (G = w.heap.size) := hG
  have hsz : V.heap.size = G + 2 := by rw [hVe, hG]; simp
  have a0 : V.cell? ⟨G, 0, none⟩ = some (.int .i64 M) := by rw [hVe, hG]; exact bkeep (balloc _ _) (by simp) rfl
  have a1 : V.cell? ⟨G, 1, none⟩ = some (.slice a la ca) := by rw [hVe, hG]; exact bkeep (balloc _ _) (by simp) rfl
  have b0 : V.cell? ⟨G + 1, 0, none⟩ = some (.int .i64 K) := by
    rw [hVe, hG]
    simp
  have b1 : V.cell? ⟨G + 1, 1, none⟩ = some (.slice b lb cb) := by
    rw [hVe, hG]
    simp
  rw [← hVe] at hV
  obtain ⟨V3, hV3⟩ : ∃ V3, V3 = V.alloc (.cells #[.int .i64 0, .slice none 0 0] 30) := ⟨_, rfl⟩
  have HV3 : Hid (V3 = ((w.alloc (.cells #[.int .i64 M, .slice a la ca] 30)).alloc (.cells #[.int .i64 K, .slice b lb cb] 30)).alloc (.cells #[.int .i64 0, .slice none 0 0] 30)) := by show _ = _; rw [hV3, hVe]
  have hb3 : Below V.heap.size V V3 := by rw [hV3]; exact balloc _ _
  have hR : V3.heap[G + 2]? = some (.cells #[.int .i64 0, .slice none 0 0] 30 (0, 0)) := by
    have := heap_alloc_new V (.cells #[.int .i64 0, .slice none 0 0] 30)
    rw [hV3, ← hsz]
    exact this
  have hR3 : G + 2 < V3.heap.size := (Array.getElem?_eq_some_iff.1 hR).1
  have HX : Hid (Nums V a la ca ws ∧ Nums V b lb cb vs ∧ Below w.heap.size w V ∧ V.heap.size = G + 2 ∧ G = w.heap.size) := ⟨hx.below hV, hy.below hV, hV, hsz, hG⟩
  have HC1 := (show Hid _ from x14right_any M a la ca ws V3 hM ((hx.below hV).below hb3))
  have HC2 : Hid (∀ wx : World, Below V3.heap.size V3 wx → Calls Try.prog 14 #[.agg #[.int .i64 K, .slice b lb cb]] wx fun e w' => ∃ z, e = .returned (.bool z) ∧ (z = true ↔ RightS K vs) ∧ Below wx.heap.size wx w') := fun wx hb => x14right_any K b lb cb vs wx hK (((hy.below hV).below hb3).below hb)
  have HFs : Hid ((∀ (x y : Nat) (w : World), x < 18446744073709551616 → y < 18446744073709551616 → Calls Try.prog k #[.int .u64 (x : Int), .int .u64 (y : Int)] w fun e w' => e = .returned (.int .u64 ((F x y : Nat) : Int)) ∧ w = w') ∧ (∀ x y : Nat, x < 18446744073709551616 → y < 18446744073709551616 → ∀ j, (F x y).testBit j = op (x.testBit j) (y.testBit j)) ∧ (∀ x y : Nat, x < 18446744073709551616 → y < 18446744073709551616 → F x y < 18446744073709551616) ∧ op false false = false) := ⟨hC, hF, hF2, h0⟩
  have HB3 : Hid (Below V.heap.size V V3 ∧ V3.heap[G + 2]? = some (.cells #[.int .i64 0, .slice none 0 0] 30 (0, 0))) := ⟨hb3, hR⟩
  replace a0 := bkeep hb3 a0 rfl
  replace a1 := bkeep hb3 a1 rfl
  replace b0 := bkeep hb3 b0 rfl
  replace b1 := bkeep hb3 b1 rfl
  have A0 : Hid (V3.cell? ⟨G, 0, none⟩ = some (.int .i64 M) ∧ V3.cell? ⟨G, 1, none⟩ = some (.slice a la ca) ∧ V3.cell? ⟨G + 1, 0, none⟩ = some (.int .i64 K) ∧ V3.cell? ⟨G + 1, 1, none⟩ = some (.slice b lb cb)) := ⟨a0, a1, b0, b1⟩
  clear hV hVe hG hsz hV3 hb3 hR hx hy hM hK hC hF hF2 h0
  go_enter Try.func12, Try.ntmps12
  go_upto_region 1 with fail
  rw [← HV3.out, ← HG.out]
  clear HV3 HG
  go_wp2_with fail
  refine Calls.mono HC1.out ?_
  rintro e w1 ⟨z1, rfl, hz1, hb1⟩
  clear a0 a1 b0 b1
  have bad : ∀ wx : World, Below V3.heap.size V3 wx → ¬ (RightS M ws ∧ RightS K vs ∧ M = K) → Hid (∀ w', w' = (wx.setCell ⟨G + 2, 0, none⟩ (.int .i64 0)).setCell ⟨G + 2, 1, none⟩ (.slice none 0 0) → JoinT14 op M ws K vs w (.returned (.tuple #[.agg #[.int .i64 0, .slice none 0 0], .int .i64 1])) w') := fun wx hb hno w' e => by
    subst e
    refine ⟨0, none, 0, 0, [], 1, rfl, ⟨rfl, Nat.le_refl _, Nat.zero_le _, fun h => absurd h (Nat.lt_irrefl _), fun x hx => by cases hx⟩, .inl ⟨hno, rfl, rfl, rfl⟩, put2_below (bthen (bthen HX.out.2.2.1 HB3.out.1) hb) ?_ _ _⟩
    rw [HX.out.2.2.2.2]
    omega
  obtain ⟨a0, a1, b0, b1⟩ := A0.out
  replace a0 := bkeep hb1 a0 rfl
  replace a1 := bkeep hb1 a1 rfl
  replace b0 := bkeep hb1 b0 rfl
  replace b1 := bkeep hb1 b1 rfl
  dsimp only
  cases z1 with
  | false =>
    have hR1 : w1.heap[G + 2]? = some (.cells #[.int .i64 0, .slice none 0 0] 30 (0, 0)) := (hb1.block _ hR3).trans HB3.out.2
    obtain ⟨⟨r0, f0⟩, ⟨r1, f1⟩, y0, y1⟩ := put2_cells hR1 (.int .i64 0) (.slice none 0 0)
    have HF := bad w1 hb1 (fun e => by have := hz1.2 e.1; cases this)
    clear bad hz1 hb1 hR1 HC1 HC2 hE HFs HX HB3 A0
    go_wp2
    exact bodyPost_ret (v := .tuple #[.agg #[.int .i64 0, .slice none 0 0], .int .i64 1]) (by simp [results, Try.results12, go_sem, y0, y1]) rfl (HF.out _ rfl)
  | true =>
  have HZ1 : Hid (RightS M ws ∧ Below V3.heap.size V3 w1) := ⟨hz1.1 rfl, hb1⟩
  have HCb := (show Hid _ from HC2.out w1 hb1)
  clear hz1 hb1 HC1 HC2
  go_wp2_with fail
  refine Calls.mono HCb.out ?_
  rintro e w2 ⟨z2, rfl, hz2, hb2⟩
  have hb12 := bthen HZ1.out.2 hb2
  replace a0 := bkeep hb2 a0 rfl
  replace a1 := bkeep hb2 a1 rfl
  replace b0 := bkeep hb2 b0 rfl
  replace b1 := bkeep hb2 b1 rfl
  have hR2 : w2.heap[G + 2]? = some (.cells #[.int .i64 0, .slice none 0 0] 30 (0, 0)) := (hb12.block _ hR3).trans HB3.out.2
  obtain ⟨⟨r0, f0⟩, ⟨r1, f1⟩, y0, y1⟩ := put2_cells hR2 (.int .i64 0) (.slice none 0 0)
  dsimp only
  cases z2 with
  | false =>
    have HF := bad w2 hb12 (fun e => by have := hz2.2 e.2.1; cases this)
    clear bad hz2 hb2 hb12 hR2 HCb hE HFs HX HB3 A0
    go_wp2
    exact bodyPost_ret (v := .tuple #[.agg #[.int .i64 0, .slice none 0 0], .int .i64 1]) (by simp [results, Try.results12, go_sem, y0, y1]) rfl (HF.out _ rfl)
  | true =>
  by_cases hMK : M = K
  case neg =>
    have d1 : (M != K) = true := by simp [hMK]
    have d2 : (M == K) = false := by simp [hMK]
    have HF := bad w2 hb12 (fun e => hMK e.2.2)
    clear bad hz2 hb2 hb12 hR2 HCb hE HFs HX HB3 A0 hMK
    go_wp2
    exact bodyPost_ret (v := .tuple #[.agg #[.int .i64 0, .slice none 0 0], .int .i64 1]) (by simp [results, Try.results12, go_sem, y0, y1]) rfl (HF.out _ rfl)
  subst hMK
  have d1 : (M != M) = false := by simp
  have d2 : (M == M) = true := by simp
  have hr1 := HZ1.out.1
  have hr2 := hz2.1 rfl
  obtain ⟨m, rfl⟩ : ∃ m : Nat, M = (m : Int) := ⟨M.toNat, by have := hr1.lo; omega⟩
  have hm : m ≤ 65536 := by have := hr1.hi; omega
  have HE := (show Hid _ from x14empty_any m hm w2)
  have HZ : Hid (RightS (m : Int) ws ∧ RightS (m : Int) vs ∧ Below V.heap.size V w2) := ⟨hr1, hr2, bthen HB3.out.1 hb12⟩
  have HR2 : Hid (w2.heap[G + 2]? = some (.cells #[.int .i64 0, .slice none 0 0] 30 (0, 0))) := hR2
  clear bad hz2 hb2 hb12 hR2 HCb A0 hr1 hr2 HZ1 HB3 y0 y1 r0 f0 r1 f1
  go_wp2_with fail
  refine Calls.mono HE.out ?_
  rintro e w3 ⟨g, rfl, k1, k2, k3⟩
  have hg2 : g < w3.heap.size := k1.lt14
  have hRl : G + 2 < w2.heap.size := (Array.getElem?_eq_some_iff.1 HR2.out).1
  have hR4 : w3.heap[G + 2]? = some (.cells #[.int .i64 0, .slice none 0 0] 30 (0, 0)) := (k3.block _ hRl).trans HR2.out
  obtain ⟨q, hq⟩ : ∃ q, q = (m + 63) / 64 := ⟨_, rfl⟩
  rw [← hq] at k1
  rw [← hq]
  have hb4 := balloc w3 (.cells #[.int .i64 (m : Int), .slice (some ⟨g, 0, none⟩) q q] 30)
  have hw3 : G + 2 < w3.heap.size := by omega
  have hVz := HX.out.2.2.2.1
  have hO : OfAt V (w3.alloc (.cells #[.int .i64 (m : Int), .slice (some ⟨g, 0, none⟩) q q] 30)) (G + 2) w3.heap.size g m q (noughts q) := by
    refine ⟨bthen (bthen HZ.out.2.2 k3) hb4, (hb4.block _ hw3).trans hR4, heap_alloc_new _ _, ?_, by simp [noughts], ⟨by omega, by omega, by omega⟩, ⟨by omega, by omega, by omega⟩⟩
    obtain ⟨cur, q1, q2⟩ := k1
    exact ⟨cur, (hb4.block _ hg2).trans q1, q2⟩
  obtain ⟨s, hs⟩ : ∃ s, s = w3.heap.size := ⟨_, rfl⟩
  obtain ⟨W, hW⟩ : ∃ W, W = w3.alloc (.cells #[.int .i64 (m : Int), .slice (some ⟨g, 0, none⟩) q q] 30) := ⟨_, rfl⟩
  have HV : Hid (W = w3.alloc (.cells #[.int .i64 (m : Int), .slice (some ⟨g, 0, none⟩) q q] 30) ∧ s = w3.heap.size) := ⟨hW, hs⟩
  have HQ : Hid (q = (m + 63) / 64) := hq
  have hq2 : q ≤ 1024 := by omega
  rw [← hs, ← hW] at hO
  have HO : Hid (OfAt V W (G + 2) s g m q (noughts q)) := hO
  have hla := HX.out.1.hlen
  have hlb := HX.out.2.1.hlen
  have hal : la = q := by have := HZ.out.1.len; omega
  have hbl : q = lb := by have := HZ.out.2.1.len; omega
  subst hal
  subst hbl
  have t4 := bthen k3 hb4
  rw [← hW] at t4
  replace a1 := bkeep t4 a1 rfl
  replace b1 := bkeep t4 b1 rfl
  have A1 : Hid (W.cell? ⟨G, 1, none⟩ = some (.slice a la ca) ∧ W.cell? ⟨G + 1, 1, none⟩ = some (.slice b la cb)) := ⟨a1, b1⟩
  obtain ⟨-, c4, c5⟩ := HO.out.cells
  have hsW : V.heap.size ≤ W.heap.size := HO.out.below.size
  clear HE HR2 hR4 k1 k2 k3 hb4 hO hg2 hw3 hRl hVz hW hs hq hla hlb t4 a0 b0 d1 d2
  dsimp only
  go_upto_region 4 with fail
  rw [← HV.out.1, ← HV.out.2]
  clear HV a1 b1
  go_wp2
  go_loopw [32] (fun v32 wr => ∃ i : Nat, v32 = .int .i64 (i : Int) ∧ i ≤ la ∧ ∃ us, OfAt V wr (G + 2) s g m la us ∧ Joins14 F ws vs i us ∧ wr.cell? ⟨G, 1, none⟩ = some (.slice a la ca) ∧ wr.cell? ⟨G + 1, 1, none⟩ = some (.slice b la cb)) (fun v32 _ => la - (intOf v32).toNat)
  case atStart => exact ⟨0, rfl, Nat.zero_le _, noughts la, HO.out, Joins14.zero _ _ _ _, A1.out.1, A1.out.2⟩
  case round =>
    obtain ⟨i, rfl, hi, us, hA, hJ, a1, b1⟩ := hrel
    clear HO c4 c5 A1
    obtain ⟨-, c4, c5⟩ := hA.cells
    have hlen := hA.len
    by_cases hlt : i < la
    · have hlti : (i : Int) < (la : Int) := by omega
      have hi0 : (0 : Int) ≤ (i : Int) := by omega
      have cm := blk_word hA.b (q := i) (by omega) hJ.dig
      have fm := blk_thaw hA.b i
      obtain ⟨o, ho⟩ : ∃ o, o = (us.getD i 0).toNat := ⟨_, rfl⟩
      rw [← ho] at cm
      obtain ⟨xb, xo, x, rfl, cx, hx, hxl⟩ := word_at (HX.out.1.below hA.below) hlt
      obtain ⟨yb, yo, y, rfl, cy, hy, hyl⟩ := word_at (HX.out.2.1.below hA.below) hlt
      have HC := (show Hid (∀ wx : World, _) from fun wx => HFs.out.1 x y wx hxl hyl)
      have hfl := HFs.out.2.2.1 x y hxl hyl
      have hmo := hJ.more (by omega) (by rw [← hx, ← hy]; exact hfl)
      rw [← hx, ← hy] at hmo
      obtain ⟨z, hz⟩ : ∃ z, z = F x y := ⟨_, rfl⟩
      rw [← hz] at hmo HC
      have hk1 : (wr.setCell ⟨g, i, none⟩ (.int .u64 (z : Int))).cell? ⟨G, 1, none⟩ = some (.slice (some ⟨xb, xo, none⟩) la ca) := (World.cell?_of_block ((grown_set wr g i (.int .u64 (z : Int))).block G (World.block_lt_of_cell? wr _ a1) (fun e => by have := hA.new.2.2; have := HX.out.2.2.2.1; have := Option.some.inj e; omega))).trans a1
      have hk2 : (wr.setCell ⟨g, i, none⟩ (.int .u64 (z : Int))).cell? ⟨G + 1, 1, none⟩ = some (.slice (some ⟨yb, yo, none⟩) la cb) := (World.cell?_of_block ((grown_set wr g i (.int .u64 (z : Int))).block (G + 1) (World.block_lt_of_cell? wr _ b1) (fun e => by have := hA.new.2.2; have := HX.out.2.2.2.1; have := Option.some.inj e; omega))).trans b1
      have HN2 : Hid (OfAt V (wr.setCell ⟨g, i, none⟩ (.int .u64 (z : Int))) (G + 2) s g m la (us.set i (z : Int)) ∧ Joins14 F ws vs (i + 1) (us.set i (z : Int)) ∧ i < la ∧ (wr.setCell ⟨g, i, none⟩ (.int .u64 (z : Int))).cell? ⟨G, 1, none⟩ = some (.slice (some ⟨xb, xo, none⟩) la ca) ∧ (wr.setCell ⟨g, i, none⟩ (.int .u64 (z : Int))).cell? ⟨G + 1, 1, none⟩ = some (.slice (some ⟨yb, yo, none⟩) la cb)) := ⟨hA.set i _, hmo, hlt, hk1, hk2⟩
      have hgx : xb ≠ g := fun e => by
        have h1 : xb < V.heap.size := by
          obtain ⟨b', o', e', hc'⟩ := HX.out.1.cells (by omega)
          cases e'
          exact World.block_lt_of_cell? V _ (hc' i hlt)
        have h2 := hA.new.2.2
        omega
      have hgy : yb ≠ g := fun e => by
        have h1 : yb < V.heap.size := by
          obtain ⟨b', o', e', hc'⟩ := HX.out.2.1.cells (by omega)
          cases e'
          exact World.block_lt_of_cell? V _ (hc' i hlt)
        have h2 := hA.new.2.2
        omega
      have other : ∀ b o u, b ≠ g → wr.cell? ⟨b, o, none⟩ = some u → (wr.setCell ⟨g, i, none⟩ (.int .u64 (z : Int))).cell? ⟨b, o, none⟩ = some u := fun b o u hb hc => (World.cell?_of_block ((grown_set wr g i (.int .u64 (z : Int))).block b (World.block_lt_of_cell? wr _ hc) (fun e => hb (Option.some.inj e)))).trans hc
      have HK : Hid (((wr.setCell ⟨g, i, none⟩ (.int .u64 (z : Int))).cell? ⟨s, 1, none⟩ = some (.slice (some ⟨g, 0, none⟩) la la) ∧ (wr.setCell ⟨g, i, none⟩ (.int .u64 (z : Int))).cell? ⟨G, 1, none⟩ = some (.slice (some ⟨xb, xo, none⟩) la ca) ∧ (wr.setCell ⟨g, i, none⟩ (.int .u64 (z : Int))).cell? ⟨G + 1, 1, none⟩ = some (.slice (some ⟨yb, yo, none⟩) la cb) ∧ (wr.setCell ⟨g, i, none⟩ (.int .u64 (z : Int))).cell? ⟨xb, xo + i, none⟩ = some (.int .u64 (x : Int)) ∧ (wr.setCell ⟨g, i, none⟩ (.int .u64 (z : Int))).cell? ⟨yb, yo + i, none⟩ = some (.int .u64 (y : Int)))) := ⟨other _ _ _ (fun e => hA.ne.2.1 e.symm) c5, hk1, hk2, other _ _ _ hgx cx, other _ _ _ hgy cy⟩
      clear hA hJ hlt ho hx hy hxl hyl hfl hmo hz hk1 hk2 hgx hgy other
      go_wp2_with fail
      go_region_held3 (fun w' => (w'.cell? ⟨s, 1, none⟩ = some (.slice (some ⟨g, 0, none⟩) la la) ∧ w'.cell? ⟨G, 1, none⟩ = some (.slice (some ⟨xb, xo, none⟩) la ca) ∧ w'.cell? ⟨G + 1, 1, none⟩ = some (.slice (some ⟨yb, yo, none⟩) la cb) ∧ w'.cell? ⟨xb, xo + i, none⟩ = some (.int .u64 (x : Int)) ∧ w'.cell? ⟨yb, yo + i, none⟩ = some (.int .u64 (y : Int)))) (first | with_reducible exact HK.out | with_reducible exact keep5 HK.out | go_keep) ((with_reducible refine Calls.mono (HC.out _) ?_; rintro e w5 ⟨rfl, rfl⟩))
      all_goals
        clear HC
        go_wp2
        go_roundw
      all_goals first
        | exact ⟨i + 1, by go_num, HN2.out.2.2.1, _, HN2.out.1.grow (bdr12 (Below.refl _ _)), HN2.out.2.1, HN2.out.2.2.2.1, HN2.out.2.2.2.2⟩
        | exact ⟨i + 1, by go_num, HN2.out.2.2.1, _, HN2.out.1, HN2.out.2.1, HN2.out.2.2.2.1, HN2.out.2.2.2.2⟩
        | (have := HN2.out.2.2.1; simp [intOf]; omega)
    · have hkd : decide (i < la) = false := decide_eq_false hlt
      obtain rfl : i = la := by omega
      have hset := (show Joins14 F ws vs us.length us by rw [hlen]; exact hJ).set HFs.out.2.1 HFs.out.2.2.2 HZ.out.1 HZ.out.2.1 HX.out.1.word HX.out.2.1.word (hlen.trans HQ.out)
      obtain ⟨⟨r0, f0⟩, ⟨r1, f1⟩, z0, z1⟩ := put2_cells hA.r (.int .i64 (m : Int)) (.slice (some ⟨g, 0, none⟩) i i)
      have hgr := World.grownBy.trans (grown_set wr (G + 2) 0 (.int .i64 (m : Int))) (grown_set _ (G + 2) 1 (.slice (some ⟨g, 0, none⟩) i i))
      have hbk := (hA.b.grown hgr (fun e => hA.ne.1 (Option.some.inj e).symm)).nums hset.dig hlen (by omega)
      have hbl := put2_below (bthen HX.out.2.2.1 hA.below) (R := G + 2) (by rw [HX.out.2.2.2.2]; omega) (.int .i64 (m : Int)) (.slice (some ⟨g, 0, none⟩) i i)
      have HF : Hid (JoinT14 op (m : Int) ws (m : Int) vs w (.returned (.tuple #[.agg #[.int .i64 (m : Int), .slice (some ⟨g, 0, none⟩) i i], .int .i64 0])) ((wr.setCell ⟨G + 2, 0, none⟩ (.int .i64 (m : Int))).setCell ⟨G + 2, 1, none⟩ (.slice (some ⟨g, 0, none⟩) i i))) := ⟨(m : Int), _, i, i, us, 0, rfl, hbk, .inr ⟨⟨HZ.out.1, HZ.out.2.1, rfl⟩, rfl, by rw [Int.toNat_natCast]; exact hset, rfl⟩, hbl⟩
      clear hlt hA hJ hset hgr hbk hlen hbl
      go_wp2
      exact bodyPost_ret (v := .tuple #[.agg #[.int .i64 (m : Int), .slice (some ⟨g, 0, none⟩) i i], .int .i64 0]) (by simp [results, Try.results12, go_sem, z0, z1]) rfl HF.out
/-- The bits of one word that are not in another. -/
def andNotF (x y : Nat) : Nat := (bits .andNot .u64 (x : Int) (y : Int)).toNat
theorem andNotF_ok {x y : Nat} (hx : x < 18446744073709551616) (hy : y < 18446744073709551616) : bits .andNot .u64 (x : Int) (y : Int) = ((andNotF x y : Nat) : Int) ∧ andNotF x y < 18446744073709551616 ∧ ∀ j, (andNotF x y).testBit j = (x.testBit j && !y.testBit j) := by
  obtain ⟨m, h1, h2, h3⟩ := andNot64 x y hx hy
  have e : andNotF x y = m := by
    unfold andNotF
    rw [h1, Int.toNat_natCast]
  rw [e]
  exact ⟨h1, h2, h3⟩
set_option maxRecDepth 20000 in
theorem x14wminus_any (x y : Nat) (w : World) (hx : x < 18446744073709551616) (hy : y < 18446744073709551616) : Calls Try.prog 13 #[.int .u64 (x : Int), .int .u64 (y : Int)] w fun e w' => e = .returned (.int .u64 ((andNotF x y : Nat) : Int)) ∧ w = w' := by
  obtain ⟨z, hz⟩ : ∃ z : Nat, z = andNotF x y := ⟨_, rfl⟩
  have H : bits .andNot .u64 (x : Int) (y : Int) = (z : Int) := by rw [hz]; exact (andNotF_ok hx hy).1
  rw [← hz]
  clear hz hx hy
  go_enter Try.func13, Try.ntmps13
  go_wp2
  go_ret
  exact ⟨by rfl, by trivial⟩
set_option maxRecDepth 20000 in
set_option maxHeartbeats 3200000 in
theorem x14minus_any (M K : Int) (a b : Option Addr) (la ca lb cb : Nat) (ws vs : List Int) (w : World) (hM : -9223372036854775808 ≤ M ∧ M < 9223372036854775808) (hK : -9223372036854775808 ≤ K ∧ K < 9223372036854775808) (hx : Nums w a la ca ws) (hy : Nums w b lb cb vs) :
    Calls Try.prog 6 #[.agg #[.int .i64 M, .slice a la ca], .agg #[.int .i64 K, .slice b lb cb]] w fun e w' => JoinT14 (fun x y => x && !y) M ws K vs w e w' := by
  have hV := bthen (bthen (balloc w (.cells #[.int .i64 M, .slice a la ca] 30)) (balloc (w.alloc (.cells #[.int .i64 M, .slice a la ca] 30)) (.cells #[.int .i64 K, .slice b lb cb] 30))) (balloc ((w.alloc (.cells #[.int .i64 M, .slice a la ca] 30)).alloc (.cells #[.int .i64 K, .slice b lb cb] 30)) (.cells #[.int .i64 0, .slice none 0 0] 30))
  obtain ⟨V, hVe⟩ : ∃ V, V = (((w.alloc (.cells #[.int .i64 M, .slice a la ca] 30)).alloc (.cells #[.int .i64 K, .slice b lb cb] 30)).alloc (.cells #[.int .i64 0, .slice none 0 0] 30)) := ⟨_, rfl⟩
  have HVe : Hid (V = (((w.alloc (.cells #[.int .i64 M, .slice a la ca] 30)).alloc (.cells #[.int .i64 K, .slice b lb cb] 30)).alloc (.cells #[.int .i64 0, .slice none 0 0] 30))) := hVe
  obtain ⟨G, hG⟩ : ∃ G, G = w.heap.size := ⟨_, rfl⟩
  have HG : Hid (G = w.heap.size) := hG
  have a0 : V.cell? ⟨G, 0, none⟩ = some (.int .i64 M) := by rw [hVe, hG]; exact bkeep (balloc _ _) (by simp) rfl
  have a1 : V.cell? ⟨G, 1, none⟩ = some (.slice a la ca) := by rw [hVe, hG]; exact bkeep (balloc _ _) (by simp) rfl
  have b0 : V.cell? ⟨G + 1, 0, none⟩ = some (.int .i64 K) := by rw [hVe, hG]; exact bkeep (balloc _ _) (by simp) rfl
  have b1 : V.cell? ⟨G + 1, 1, none⟩ = some (.slice b lb cb) := by rw [hVe, hG]; exact bkeep (balloc _ _) (by simp) rfl
  have hR : V.heap[G + 2]? = some (.cells #[.int .i64 0, .slice none 0 0] 30 (0, 0)) := by
    have := heap_alloc_new ((w.alloc (.cells #[.int .i64 M, .slice a la ca] 30)).alloc (.cells #[.int .i64 K, .slice b lb cb] 30)) (.cells #[.int .i64 0, .slice none 0 0] 30)
    rw [hVe, hG]
    simpa using this
  have hRl : G + 2 < V.heap.size := (Array.getElem?_eq_some_iff.1 hR).1
  rw [← hVe] at hV
  have HC := (show Hid _ from x14tog_any 13 andNotF (fun x y => x && !y) Try.call13 (fun x y w hx hy => x14wminus_any x y w hx hy) (fun x y hx hy j => (andNotF_ok hx hy).2.2 j) (fun x y hx hy => (andNotF_ok hx hy).2.1) rfl M K a b la ca lb cb ws vs V hM hK (hx.below hV) (hy.below hV))
  have HB : Hid (Below w.heap.size w V ∧ V.heap[G + 2]? = some (.cells #[.int .i64 0, .slice none 0 0] 30 (0, 0)) ∧ w.heap.size ≤ G + 2) := ⟨hV, hR, by omega⟩
  clear hV hVe hG hR hx hy hM hK
  go_enter Try.func6, Try.ntmps6
  go_upto_region 1 with fail
  rw [← HVe.out, ← HG.out]
  clear HVe HG
  go_wp2_with fail
  refine Calls.mono HC.out ?_
  rintro e w1 ⟨N, a', l', c', us, err, rfl, h1, h2, h3⟩
  have hR1 : w1.heap[G + 2]? = some (.cells #[.int .i64 0, .slice none 0 0] 30 (0, 0)) := (h3.block _ hRl).trans HB.out.2.1
  obtain ⟨⟨r0, f0⟩, ⟨r1, f1⟩, z0, z1⟩ := put2_cells hR1 (.int .i64 N) (.slice a' l' c')
  have HF : Hid (Nums ((w1.setCell ⟨G + 2, 0, none⟩ (.int .i64 N)).setCell ⟨G + 2, 1, none⟩ (.slice a' l' c')) a' l' c' us ∧ ResJoin (fun x y => x && !y) M ws K vs N us err ∧ Below w.heap.size w ((w1.setCell ⟨G + 2, 0, none⟩ (.int .i64 N)).setCell ⟨G + 2, 1, none⟩ (.slice a' l' c'))) := ⟨Nums.keep14 hR1 h1 (fun u e => by cases e) (fun u e => by cases e), h2, put2_below (bthen HB.out.1 h3) HB.out.2.2 _ _⟩
  clear HC HB hR1 h1 h2 h3 a0 a1 b0 b1
  dsimp only
  go_wp2
  exact bodyPost_ret (v := .tuple #[.agg #[.int .i64 N, .slice a' l' c'], .int .i64 err]) (by simp [results, Try.results6, go_sem, z0, z1]) rfl ⟨N, a', l', c', us, err, rfl, HF.out.1, HF.out.2.1, HF.out.2.2⟩
end Go.Proofs.Ytaiikhbfnfcalab

/-
  The document's sets: New, Full.
-/
import Derived.Test.YtfgccldkbolkoaaRef14E
namespace Go.Proofs.Ytfgccldkbolkoaa
open Go.RowKit

/-- Two cells are written. -/
theorem put2_cells {W : World} {R : Nat} {x y : Value} (h : W.heap[R]? = some (.cells #[x, y] 25 (0, 0))) (v0 v1 : Value) : (W.cell? ⟨R, 0, none⟩ = some x ∧ W.frozen? ⟨R, 0, none⟩ = false) ∧ (W.cell? ⟨R, 1, none⟩ = some y ∧ W.frozen? ⟨R, 1, none⟩ = false) ∧ ((W.setCell ⟨R, 0, none⟩ v0).setCell ⟨R, 1, none⟩ v1).cell? ⟨R, 0, none⟩ = some v0 ∧ ((W.setCell ⟨R, 0, none⟩ v0).setCell ⟨R, 1, none⟩ v1).cell? ⟨R, 1, none⟩ = some v1 := by
  have k1 := heap_setCell_same W R 0 _ _ v0 h
  have k2 := heap_setCell_same _ R 1 _ _ v1 k1
  exact ⟨⟨by rw [cell_of_row _ _ _ _ _ _ h]; rfl, frozen_of_row _ _ _ _ _ h⟩, ⟨by rw [cell_of_row _ _ _ _ _ _ h]; rfl, frozen_of_row _ _ _ _ _ h⟩, by rw [cell_of_row _ _ _ _ _ _ k2]; rfl, by rw [cell_of_row _ _ _ _ _ _ k2]; rfl⟩
theorem Nums.keep14 {W : World} {R : Nat} {x y v0 v1 : Value} {a : Option Addr} {l c : Nat} {ws : List Int} (h : W.heap[R]? = some (.cells #[x, y] 25 (0, 0))) (hn : Nums W a l c ws) (hx : ∀ u : Int, x ≠ .int .u64 u) (hy : ∀ u : Int, y ≠ .int .u64 u) : Nums ((W.setCell ⟨R, 0, none⟩ v0).setCell ⟨R, 1, none⟩ v1) a l c ws := by
  have gr := World.grownBy.trans (grown_set W R 0 v0) (grown_set (W.setCell ⟨R, 0, none⟩ v0) R 1 v1)
  refine ⟨hn.hlen, hn.hcap, hn.hmax, fun hp => ?_, hn.word⟩
  obtain ⟨b, off, e, hc⟩ := hn.cells hp
  refine ⟨b, off, e, fun i hi => ?_⟩
  have h0 := hc i hi
  have hne : b ≠ R := fun e2 => by
    subst e2
    rw [cell_of_row _ _ _ _ _ _ h] at h0
    match off + i, h0 with
    | 0, h0 => exact hx _ (Option.some.inj h0)
    | 1, h0 => exact hy _ (Option.some.inj h0)
    | j + 2, h0 => simp at h0
  exact (World.cell?_of_block (gr.block b (World.block_lt_of_cell? W _ h0) (fun e2 => hne (Option.some.inj e2)))).trans h0
set_option maxRecDepth 20000 in
set_option maxHeartbeats 1600000 in
theorem r14new_any (n : Int) (w : World) : Calls Try.prog 7 #[.int .i64 n] w fun e w' => OfT14 n [] w e w' := by
  have hb := balloc w (.cells #[.int .i64 0, .slice none 0 0] 25)
  have hR := heap_alloc_new w (.cells #[.int .i64 0, .slice none 0 0] 25)
  have HC := (show Hid _ from r14of_any n none 0 0 [] (w.alloc (.cells #[.int .i64 0, .slice none 0 0] 25)) (Lsts.nil _) (by decide))
  have HB := (show Hid _ from hb)
  have HR : Hid ((w.alloc (.cells #[.int .i64 0, .slice none 0 0] 25)).heap[w.heap.size]? = some (.cells #[.int .i64 0, .slice none 0 0] 25 (0, 0))) := hR
  clear hb hR
  go_enter Try.func7, Try.ntmps7
  go_wp2_with fail
  refine Calls.mono HC.out ?_
  rintro e w1 ⟨N, a, l, c, ws, err, rfl, hN, hRes, hb1⟩
  have hR1 : w1.heap[w.heap.size]? = some (.cells #[.int .i64 0, .slice none 0 0] 25 (0, 0)) := (hb1.block _ (by simp)).trans HR.out
  obtain ⟨⟨r0, f0⟩, ⟨r1, f1⟩, z0, z1⟩ := put2_cells hR1 (.int .i64 N) (.slice a l c)
  have HF : Hid (Nums ((w1.setCell ⟨w.heap.size, 0, none⟩ (.int .i64 N)).setCell ⟨w.heap.size, 1, none⟩ (.slice a l c)) a l c ws ∧ ResOf n [] N ws err ∧ Below w.heap.size w ((w1.setCell ⟨w.heap.size, 0, none⟩ (.int .i64 N)).setCell ⟨w.heap.size, 1, none⟩ (.slice a l c))) := ⟨Nums.keep14 hR1 hN (fun u e => by cases e) (fun u e => by cases e), hRes, put2_below (bthen HB.out hb1) (Nat.le_refl _) _ _⟩
  clear HC HB HR hR1 hN hRes hb1
  dsimp only
  go_wp2
  exact bodyPost_ret (v := .tuple #[.agg #[.int .i64 N, .slice a l c], .int .i64 err]) (by simp [results, Try.results7, go_sem, z0, z1]) rfl ⟨N, a, l, c, ws, err, rfl, HF.out.1, HF.out.2.1, HF.out.2.2⟩
/-- What is told of the whole set. -/
def ResFull (n : Int) (N : Int) (ws : List Int) (err : Int) : Prop := ((n < 0 ∨ 65536 < n) ∧ N = 0 ∧ ws = [] ∧ err = 1) ∨ ((0 ≤ n ∧ n ≤ 65536) ∧ N = n ∧ IsSet n.toNat (fun _ => true) ws ∧ err = 0)
theorem ResFull.unique {n N N' : Int} {ws ws' : List Int} {err err' : Int} (h : ResFull n N ws err) (k : ResFull n N' ws' err') : N = N' ∧ ws = ws' ∧ err = err' := by
  rcases h with ⟨h0, h1, h2, h3⟩ | ⟨h0, h1, h2, h3⟩ <;> rcases k with ⟨k0, k1, k2, k3⟩ | ⟨k0, k1, k2, k3⟩
  · exact ⟨h1.trans k1.symm, h2.trans k2.symm, h3.trans k3.symm⟩
  · omega
  · omega
  · exact ⟨h1.trans k1.symm, h2.unique k2, h3.trans k3.symm⟩
def FullT14 (n : Int) (w : World) (e : Ending) (w' : World) : Prop := ∃ N a l c ws err, e = .returned (.tuple #[.agg #[.int .i64 N, .slice a l c], .int .i64 err]) ∧ Nums w' a l c ws ∧ ResFull n N ws err ∧ Below w.heap.size w w'
theorem ResOf.full {n : Int} {k : Nat} {N : Int} {ws : List Int} {err : Int} (hk : (n < 0 ∨ 65536 < n) ∨ (k : Int) = n) (h : ResOf n (ints (List.range k)) N ws err) : ResFull n N ws err := by
  have hin : ∀ i, inList (ints (List.range k)) i = decide (i < k) := fun i => by
    unfold inList ints
    congr 1
    simp only [List.mem_map, List.mem_range, eq_iff_iff]
    constructor
    · rintro ⟨j, hj, e⟩
      have : j = i := by omega
      omega
    · intro hi
      exact ⟨i, hi, rfl⟩
  rcases h with ⟨h0, h1, h2, h3⟩ | ⟨⟨h4, h5, h6⟩, h1, h2, h3⟩
  · refine .inl ⟨?_, h1, h2, h3⟩
    rcases h0 with e | e | ⟨x, e1, e2⟩
    · exact .inl e
    · exact .inr e
    · rcases hk with q | q
      · exact q
      · obtain ⟨j, hj, rfl⟩ := List.mem_map.1 e1
        have := List.mem_range.1 hj
        omega
  · rcases hk with q | q
    · omega
    · exact .inr ⟨⟨h4, h5⟩, h1, h2.congr (fun i hi => by rw [hin]; simp; omega), h3⟩
set_option maxRecDepth 20000 in
set_option maxHeartbeats 3200000 in
theorem r14full_any (n : Int) (w : World) : Calls Try.prog 10 #[.int .i64 n] w fun e w' => FullT14 n w e w' := by
  have hb := balloc w (.cells #[.int .i64 0, .slice none 0 0] 25)
  have hR := heap_alloc_new w (.cells #[.int .i64 0, .slice none 0 0] 25)
  obtain ⟨V, hVe⟩ : ∃ V, V = w.alloc (.cells #[.int .i64 0, .slice none 0 0] 25) := ⟨_, rfl⟩
  have HVe : Hid (V = w.alloc (.cells #[.int .i64 0, .slice none 0 0] 25)) := hVe
  rw [← hVe] at hb hR
  obtain ⟨G, hG⟩ : ∃ G, G = w.heap.size := ⟨_, rfl⟩
  have HG : Hid (G = w.heap.size) := hG
  rw [← hG] at hR
  have HB : Hid (Below w.heap.size w V ∧ V.heap[G]? = some (.cells #[.int .i64 0, .slice none 0 0] 25 (0, 0))) := ⟨hb, hR⟩
  have hGV : G < V.heap.size := (Array.getElem?_eq_some_iff.1 hR).1
  clear hb hR hVe hG
  go_enter Try.func10, Try.ntmps10
  go_upto_region 1 with fail
  rw [← HVe.out, ← HG.out]
  clear HVe
  go_wp2
  go_loopw [4, 5] (fun v4 v5 wr => ∃ k : Nat, v5 = .int .i64 (k : Int) ∧ k ≤ 65537 ∧ (k = 0 ∨ (k : Int) ≤ n) ∧ IOwn wr V.heap.size v4 (ints (List.range k)) ∧ Below V.heap.size V wr) (fun _ v5 _ => 65537 - (intOf v5).toNat)
  case atStart => exact ⟨0, rfl, by omega, .inl rfl, IOwn.nil _ _, Below.refl _ _⟩
  case round =>
    obtain ⟨k, rfl, hk, hkn, hO, hbr⟩ := hrel
    by_cases h1 : (k : Int) < n
    · have d1 : decide ((k : Int) < n) = true := decide_eq_true h1
      by_cases h2 : k ≤ 65536
      · have d2 : decide ((k : Int) ≤ 65536) = true := decide_eq_true (by omega)
        have hlit := balloc wr (.cells #[.int .i64 (k : Int)] 3)
        have hO3 := hO.alloc (.cells #[.int .i64 (k : Int)] 3)
        have hlen : (ints (List.range k)).length < 1000000 := by rw [ints_len, List.length_range]; omega
        have HB3 : Hid (Below V.heap.size V (wr.alloc (.cells #[.int .i64 (k : Int)] 3))) := bthen hbr hlit
        have hbs : V.heap.size ≤ (wr.alloc (.cells #[.int .i64 (k : Int)] 3)).heap.size := HB3.out.size
        have HK : Hid (k ≤ 65536 ∧ ((k + 1 : Nat) : Int) ≤ n) := ⟨h2, by omega⟩
        clear hO hbr hlit hkn h1 h2
        go_wp2_with (at_builtin; refine wpList_appI1 _ rfl _ _ 22 rfl Try.underlying22 V.heap.size _ _ rfl hO3 ⟨wr.heap.size, 0, none⟩ (k : Int) rfl ?c1 hlen hbs ?_)
        case c1 => simp
        intro v5 w5 hO5 hg5
        have HB5 : Hid (Below V.heap.size V w5) := HB3.out.trans ⟨hg5.os, hg5.tape, hg5.output, hg5.size, fun q hq => hg5.block q (Nat.lt_of_lt_of_le hq hbs) (fun e => by have := (World.ownsRow.lt hO3 q e.symm).1; omega)⟩
        have HO5 : Hid (IOwn w5 V.heap.size v5 (ints (List.range (k + 1)))) := by show IOwn _ _ _ _; rw [List.range_succ, show ints (List.range k ++ [k]) = ints (List.range k) ++ [(k : Int)] by simp [ints]]; exact hO5
        clear hO3 hO5 hg5 HB3 hbs hlen
        go_wp2
        go_roundw
        case rel => exact ⟨k + 1, by go_num, by have := HK.out.1; omega, .inr HK.out.2, HO5.out, HB5.out⟩
        case measure => have := HK.out.1; simp [intOf]; omega
      · have d2 : decide ((k : Int) ≤ 65536) = false := decide_eq_false (by omega)
        obtain ⟨a, cp, e, hL, -⟩ := hO.lsts (fun x hx => by
          obtain ⟨j, hj, rfl⟩ := List.mem_map.1 hx
          have := List.mem_range.1 hj
          omega)
        rw [ints_len, List.length_range] at e hL
        subst e
        have HC := (show Hid _ from r14of_any n a k cp _ wr hL (by omega))
        have HE : Hid ((n < 0 ∨ 65536 < n) ∨ (k : Int) = n) := .inl (.inr (by omega))
        have HBr := (show Hid _ from hbr)
        clear hL hO hbr h1 h2 hkn
        go_wp2_with fail
        refine Calls.mono HC.out ?_
        rintro e w1 ⟨N, a', l', c', ws, err, rfl, hN, hRes, hb1⟩
        have hR1 : w1.heap[G]? = some (.cells #[.int .i64 0, .slice none 0 0] 25 (0, 0)) := by
          rw [hb1.block _ (Nat.lt_of_lt_of_le hGV HBr.out.size), HBr.out.block _ hGV]
          exact HB.out.2
        obtain ⟨⟨r0, f0⟩, ⟨r1, f1⟩, z0, z1⟩ := put2_cells hR1 (.int .i64 N) (.slice a' l' c')
        have HF : Hid (Nums ((w1.setCell ⟨G, 0, none⟩ (.int .i64 N)).setCell ⟨G, 1, none⟩ (.slice a' l' c')) a' l' c' ws ∧ ResFull n N ws err ∧ Below w.heap.size w ((w1.setCell ⟨G, 0, none⟩ (.int .i64 N)).setCell ⟨G, 1, none⟩ (.slice a' l' c'))) := ⟨Nums.keep14 hR1 hN (fun u e => by cases e) (fun u e => by cases e), hRes.full HE.out, put2_below (bthen HB.out.1 (bthen HBr.out hb1)) (Nat.le_of_eq HG.out.symm) _ _⟩
        clear HC HBr hR1 hN hRes hb1
        dsimp only
        go_wp2
        exact bodyPost_ret (v := .tuple #[.agg #[.int .i64 N, .slice a' l' c'], .int .i64 err]) (by simp [results, Try.results10, go_sem, z0, z1]) rfl ⟨N, a', l', c', ws, err, rfl, HF.out.1, HF.out.2.1, HF.out.2.2⟩
    · have d1 : decide ((k : Int) < n) = false := decide_eq_false h1
      obtain ⟨a, cp, e, hL, -⟩ := hO.lsts (fun x hx => by
        obtain ⟨j, hj, rfl⟩ := List.mem_map.1 hx
        have := List.mem_range.1 hj
        omega)
      rw [ints_len, List.length_range] at e hL
      subst e
      have HC := (show Hid _ from r14of_any n a k cp _ wr hL (by omega))
      have HE : Hid ((n < 0 ∨ 65536 < n) ∨ (k : Int) = n) := by
        by_cases c : n < 0
        · exact .inl (.inl c)
        · exact .inr (by omega)
      have HBr := (show Hid _ from hbr)
      clear hL hO hbr h1 hkn
      go_wp2_with fail
      refine Calls.mono HC.out ?_
      rintro e w1 ⟨N, a', l', c', ws, err, rfl, hN, hRes, hb1⟩
      have hR1 : w1.heap[G]? = some (.cells #[.int .i64 0, .slice none 0 0] 25 (0, 0)) := by
        rw [hb1.block _ (Nat.lt_of_lt_of_le hGV HBr.out.size), HBr.out.block _ hGV]
        exact HB.out.2
      obtain ⟨⟨r0, f0⟩, ⟨r1, f1⟩, z0, z1⟩ := put2_cells hR1 (.int .i64 N) (.slice a' l' c')
      have HF : Hid (Nums ((w1.setCell ⟨G, 0, none⟩ (.int .i64 N)).setCell ⟨G, 1, none⟩ (.slice a' l' c')) a' l' c' ws ∧ ResFull n N ws err ∧ Below w.heap.size w ((w1.setCell ⟨G, 0, none⟩ (.int .i64 N)).setCell ⟨G, 1, none⟩ (.slice a' l' c'))) := ⟨Nums.keep14 hR1 hN (fun u e => by cases e) (fun u e => by cases e), hRes.full HE.out, put2_below (bthen HB.out.1 (bthen HBr.out hb1)) (Nat.le_of_eq HG.out.symm) _ _⟩
      clear HC HBr hR1 hN hRes hb1
      dsimp only
      go_wp2
      exact bodyPost_ret (v := .tuple #[.agg #[.int .i64 N, .slice a' l' c'], .int .i64 err]) (by simp [results, Try.results10, go_sem, z0, z1]) rfl ⟨N, a', l', c', ws, err, rfl, HF.out.1, HF.out.2.1, HF.out.2.2⟩
end Go.Proofs.Ytfgccldkbolkoaa

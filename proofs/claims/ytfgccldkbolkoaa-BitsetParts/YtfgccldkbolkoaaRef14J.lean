/-
  The document's sets: And, Or, Minus. Written by mk/r14both.py.
-/
import Derived.Test.YtfgccldkbolkoaaRef14I
namespace Go.Proofs.Ytfgccldkbolkoaa
open Go.RowKit

set_option maxRecDepth 20000 in
set_option maxHeartbeats 3200000 in
theorem r14and_any (M K : Int) (a b : Option Addr) (la ca lb cb : Nat) (ws vs : List Int) (w : World) (hM : -9223372036854775808 ≤ M ∧ M < 9223372036854775808) (hK : -9223372036854775808 ≤ K ∧ K < 9223372036854775808) (hx : Nums w a la ca ws) (hy : Nums w b lb cb vs) : Calls Try.prog 15 #[.agg #[.int .i64 M, .slice a la ca], .agg #[.int .i64 K, .slice b lb cb]] w fun e w' => JoinT14 (fun x y => (x && y && true) || (x && !y && false) || (!x && y && false)) M ws K vs w e w' := by
  have hV := bthen (bthen (balloc w (.cells #[.int .i64 M, .slice a la ca] 25)) (balloc (w.alloc (.cells #[.int .i64 M, .slice a la ca] 25)) (.cells #[.int .i64 K, .slice b lb cb] 25))) (balloc ((w.alloc (.cells #[.int .i64 M, .slice a la ca] 25)).alloc (.cells #[.int .i64 K, .slice b lb cb] 25)) (.cells #[.int .i64 0, .slice none 0 0] 25))
  obtain ⟨V, hVe⟩ : ∃ V, V = (((w.alloc (.cells #[.int .i64 M, .slice a la ca] 25)).alloc (.cells #[.int .i64 K, .slice b lb cb] 25)).alloc (.cells #[.int .i64 0, .slice none 0 0] 25)) := ⟨_, rfl⟩
  have HVe : Hid (V = (((w.alloc (.cells #[.int .i64 M, .slice a la ca] 25)).alloc (.cells #[.int .i64 K, .slice b lb cb] 25)).alloc (.cells #[.int .i64 0, .slice none 0 0] 25))) := hVe
  obtain ⟨G, hG⟩ : ∃ G, G = w.heap.size := ⟨_, rfl⟩
  have HG : Hid (G = w.heap.size) := hG
  have a0 : V.cell? ⟨G, 0, none⟩ = some (.int .i64 M) := by rw [hVe, hG]; exact bkeep (balloc _ _) (by simp) rfl
  have a1 : V.cell? ⟨G, 1, none⟩ = some (.slice a la ca) := by rw [hVe, hG]; exact bkeep (balloc _ _) (by simp) rfl
  have b0 : V.cell? ⟨G + 1, 0, none⟩ = some (.int .i64 K) := by rw [hVe, hG]; exact bkeep (balloc _ _) (by simp) rfl
  have b1 : V.cell? ⟨G + 1, 1, none⟩ = some (.slice b lb cb) := by rw [hVe, hG]; exact bkeep (balloc _ _) (by simp) rfl
  have hR : V.heap[G + 2]? = some (.cells #[.int .i64 0, .slice none 0 0] 25 (0, 0)) := by
    have := heap_alloc_new ((w.alloc (.cells #[.int .i64 M, .slice a la ca] 25)).alloc (.cells #[.int .i64 K, .slice b lb cb] 25)) (.cells #[.int .i64 0, .slice none 0 0] 25)
    rw [hVe, hG]
    simpa using this
  have hRl : G + 2 < V.heap.size := (Array.getElem?_eq_some_iff.1 hR).1
  rw [← hVe] at hV
  have HC := (show Hid _ from r14both_any M K a b la ca lb cb ws vs true false false V hM hK (hx.below hV) (hy.below hV))
  have HB : Hid (Below w.heap.size w V ∧ V.heap[G + 2]? = some (.cells #[.int .i64 0, .slice none 0 0] 25 (0, 0)) ∧ w.heap.size ≤ G + 2) := ⟨hV, hR, by omega⟩
  clear hV hVe hG hR hx hy hM hK
  go_enter Try.func15, Try.ntmps15
  go_upto_region 1 with fail
  rw [← HVe.out, ← HG.out]
  clear HVe HG
  go_wp2_with fail
  refine Calls.mono HC.out ?_
  rintro e w1 ⟨N, a', l', c', us, err, rfl, h1, h2, h3⟩
  have hR1 : w1.heap[G + 2]? = some (.cells #[.int .i64 0, .slice none 0 0] 25 (0, 0)) := (h3.block _ hRl).trans HB.out.2.1
  obtain ⟨⟨r0, f0⟩, ⟨r1, f1⟩, z0, z1⟩ := put2_cells hR1 (.int .i64 N) (.slice a' l' c')
  have HF : Hid (Nums ((w1.setCell ⟨G + 2, 0, none⟩ (.int .i64 N)).setCell ⟨G + 2, 1, none⟩ (.slice a' l' c')) a' l' c' us ∧ ResJoin (fun x y => (x && y && true) || (x && !y && false) || (!x && y && false)) M ws K vs N us err ∧ Below w.heap.size w ((w1.setCell ⟨G + 2, 0, none⟩ (.int .i64 N)).setCell ⟨G + 2, 1, none⟩ (.slice a' l' c'))) := ⟨Nums.keep14 hR1 h1 (fun u e => by cases e) (fun u e => by cases e), h2, put2_below (bthen HB.out.1 h3) HB.out.2.2 _ _⟩
  clear HC HB hR1 h1 h2 h3 a0 a1 b0 b1
  dsimp only
  go_wp2
  exact bodyPost_ret (v := .tuple #[.agg #[.int .i64 N, .slice a' l' c'], .int .i64 err]) (by simp [results, Try.results15, go_sem, z0, z1]) rfl ⟨N, a', l', c', us, err, rfl, HF.out.1, HF.out.2.1, HF.out.2.2⟩
set_option maxRecDepth 20000 in
set_option maxHeartbeats 3200000 in
theorem r14or_any (M K : Int) (a b : Option Addr) (la ca lb cb : Nat) (ws vs : List Int) (w : World) (hM : -9223372036854775808 ≤ M ∧ M < 9223372036854775808) (hK : -9223372036854775808 ≤ K ∧ K < 9223372036854775808) (hx : Nums w a la ca ws) (hy : Nums w b lb cb vs) : Calls Try.prog 17 #[.agg #[.int .i64 M, .slice a la ca], .agg #[.int .i64 K, .slice b lb cb]] w fun e w' => JoinT14 (fun x y => (x && y && true) || (x && !y && true) || (!x && y && true)) M ws K vs w e w' := by
  have hV := bthen (bthen (balloc w (.cells #[.int .i64 M, .slice a la ca] 25)) (balloc (w.alloc (.cells #[.int .i64 M, .slice a la ca] 25)) (.cells #[.int .i64 K, .slice b lb cb] 25))) (balloc ((w.alloc (.cells #[.int .i64 M, .slice a la ca] 25)).alloc (.cells #[.int .i64 K, .slice b lb cb] 25)) (.cells #[.int .i64 0, .slice none 0 0] 25))
  obtain ⟨V, hVe⟩ : ∃ V, V = (((w.alloc (.cells #[.int .i64 M, .slice a la ca] 25)).alloc (.cells #[.int .i64 K, .slice b lb cb] 25)).alloc (.cells #[.int .i64 0, .slice none 0 0] 25)) := ⟨_, rfl⟩
  have HVe : Hid (V = (((w.alloc (.cells #[.int .i64 M, .slice a la ca] 25)).alloc (.cells #[.int .i64 K, .slice b lb cb] 25)).alloc (.cells #[.int .i64 0, .slice none 0 0] 25))) := hVe
  obtain ⟨G, hG⟩ : ∃ G, G = w.heap.size := ⟨_, rfl⟩
  have HG : Hid (G = w.heap.size) := hG
  have a0 : V.cell? ⟨G, 0, none⟩ = some (.int .i64 M) := by rw [hVe, hG]; exact bkeep (balloc _ _) (by simp) rfl
  have a1 : V.cell? ⟨G, 1, none⟩ = some (.slice a la ca) := by rw [hVe, hG]; exact bkeep (balloc _ _) (by simp) rfl
  have b0 : V.cell? ⟨G + 1, 0, none⟩ = some (.int .i64 K) := by rw [hVe, hG]; exact bkeep (balloc _ _) (by simp) rfl
  have b1 : V.cell? ⟨G + 1, 1, none⟩ = some (.slice b lb cb) := by rw [hVe, hG]; exact bkeep (balloc _ _) (by simp) rfl
  have hR : V.heap[G + 2]? = some (.cells #[.int .i64 0, .slice none 0 0] 25 (0, 0)) := by
    have := heap_alloc_new ((w.alloc (.cells #[.int .i64 M, .slice a la ca] 25)).alloc (.cells #[.int .i64 K, .slice b lb cb] 25)) (.cells #[.int .i64 0, .slice none 0 0] 25)
    rw [hVe, hG]
    simpa using this
  have hRl : G + 2 < V.heap.size := (Array.getElem?_eq_some_iff.1 hR).1
  rw [← hVe] at hV
  have HC := (show Hid _ from r14both_any M K a b la ca lb cb ws vs true true true V hM hK (hx.below hV) (hy.below hV))
  have HB : Hid (Below w.heap.size w V ∧ V.heap[G + 2]? = some (.cells #[.int .i64 0, .slice none 0 0] 25 (0, 0)) ∧ w.heap.size ≤ G + 2) := ⟨hV, hR, by omega⟩
  clear hV hVe hG hR hx hy hM hK
  go_enter Try.func17, Try.ntmps17
  go_upto_region 1 with fail
  rw [← HVe.out, ← HG.out]
  clear HVe HG
  go_wp2_with fail
  refine Calls.mono HC.out ?_
  rintro e w1 ⟨N, a', l', c', us, err, rfl, h1, h2, h3⟩
  have hR1 : w1.heap[G + 2]? = some (.cells #[.int .i64 0, .slice none 0 0] 25 (0, 0)) := (h3.block _ hRl).trans HB.out.2.1
  obtain ⟨⟨r0, f0⟩, ⟨r1, f1⟩, z0, z1⟩ := put2_cells hR1 (.int .i64 N) (.slice a' l' c')
  have HF : Hid (Nums ((w1.setCell ⟨G + 2, 0, none⟩ (.int .i64 N)).setCell ⟨G + 2, 1, none⟩ (.slice a' l' c')) a' l' c' us ∧ ResJoin (fun x y => (x && y && true) || (x && !y && true) || (!x && y && true)) M ws K vs N us err ∧ Below w.heap.size w ((w1.setCell ⟨G + 2, 0, none⟩ (.int .i64 N)).setCell ⟨G + 2, 1, none⟩ (.slice a' l' c'))) := ⟨Nums.keep14 hR1 h1 (fun u e => by cases e) (fun u e => by cases e), h2, put2_below (bthen HB.out.1 h3) HB.out.2.2 _ _⟩
  clear HC HB hR1 h1 h2 h3 a0 a1 b0 b1
  dsimp only
  go_wp2
  exact bodyPost_ret (v := .tuple #[.agg #[.int .i64 N, .slice a' l' c'], .int .i64 err]) (by simp [results, Try.results17, go_sem, z0, z1]) rfl ⟨N, a', l', c', us, err, rfl, HF.out.1, HF.out.2.1, HF.out.2.2⟩
set_option maxRecDepth 20000 in
set_option maxHeartbeats 3200000 in
theorem r14minus_any (M K : Int) (a b : Option Addr) (la ca lb cb : Nat) (ws vs : List Int) (w : World) (hM : -9223372036854775808 ≤ M ∧ M < 9223372036854775808) (hK : -9223372036854775808 ≤ K ∧ K < 9223372036854775808) (hx : Nums w a la ca ws) (hy : Nums w b lb cb vs) : Calls Try.prog 19 #[.agg #[.int .i64 M, .slice a la ca], .agg #[.int .i64 K, .slice b lb cb]] w fun e w' => JoinT14 (fun x y => (x && y && false) || (x && !y && true) || (!x && y && false)) M ws K vs w e w' := by
  have hV := bthen (bthen (balloc w (.cells #[.int .i64 M, .slice a la ca] 25)) (balloc (w.alloc (.cells #[.int .i64 M, .slice a la ca] 25)) (.cells #[.int .i64 K, .slice b lb cb] 25))) (balloc ((w.alloc (.cells #[.int .i64 M, .slice a la ca] 25)).alloc (.cells #[.int .i64 K, .slice b lb cb] 25)) (.cells #[.int .i64 0, .slice none 0 0] 25))
  obtain ⟨V, hVe⟩ : ∃ V, V = (((w.alloc (.cells #[.int .i64 M, .slice a la ca] 25)).alloc (.cells #[.int .i64 K, .slice b lb cb] 25)).alloc (.cells #[.int .i64 0, .slice none 0 0] 25)) := ⟨_, rfl⟩
  have HVe : Hid (V = (((w.alloc (.cells #[.int .i64 M, .slice a la ca] 25)).alloc (.cells #[.int .i64 K, .slice b lb cb] 25)).alloc (.cells #[.int .i64 0, .slice none 0 0] 25))) := hVe
  obtain ⟨G, hG⟩ : ∃ G, G = w.heap.size := ⟨_, rfl⟩
  have HG : Hid (G = w.heap.size) := hG
  have a0 : V.cell? ⟨G, 0, none⟩ = some (.int .i64 M) := by rw [hVe, hG]; exact bkeep (balloc _ _) (by simp) rfl
  have a1 : V.cell? ⟨G, 1, none⟩ = some (.slice a la ca) := by rw [hVe, hG]; exact bkeep (balloc _ _) (by simp) rfl
  have b0 : V.cell? ⟨G + 1, 0, none⟩ = some (.int .i64 K) := by rw [hVe, hG]; exact bkeep (balloc _ _) (by simp) rfl
  have b1 : V.cell? ⟨G + 1, 1, none⟩ = some (.slice b lb cb) := by rw [hVe, hG]; exact bkeep (balloc _ _) (by simp) rfl
  have hR : V.heap[G + 2]? = some (.cells #[.int .i64 0, .slice none 0 0] 25 (0, 0)) := by
    have := heap_alloc_new ((w.alloc (.cells #[.int .i64 M, .slice a la ca] 25)).alloc (.cells #[.int .i64 K, .slice b lb cb] 25)) (.cells #[.int .i64 0, .slice none 0 0] 25)
    rw [hVe, hG]
    simpa using this
  have hRl : G + 2 < V.heap.size := (Array.getElem?_eq_some_iff.1 hR).1
  rw [← hVe] at hV
  have HC := (show Hid _ from r14both_any M K a b la ca lb cb ws vs false true false V hM hK (hx.below hV) (hy.below hV))
  have HB : Hid (Below w.heap.size w V ∧ V.heap[G + 2]? = some (.cells #[.int .i64 0, .slice none 0 0] 25 (0, 0)) ∧ w.heap.size ≤ G + 2) := ⟨hV, hR, by omega⟩
  clear hV hVe hG hR hx hy hM hK
  go_enter Try.func19, Try.ntmps19
  go_upto_region 1 with fail
  rw [← HVe.out, ← HG.out]
  clear HVe HG
  go_wp2_with fail
  refine Calls.mono HC.out ?_
  rintro e w1 ⟨N, a', l', c', us, err, rfl, h1, h2, h3⟩
  have hR1 : w1.heap[G + 2]? = some (.cells #[.int .i64 0, .slice none 0 0] 25 (0, 0)) := (h3.block _ hRl).trans HB.out.2.1
  obtain ⟨⟨r0, f0⟩, ⟨r1, f1⟩, z0, z1⟩ := put2_cells hR1 (.int .i64 N) (.slice a' l' c')
  have HF : Hid (Nums ((w1.setCell ⟨G + 2, 0, none⟩ (.int .i64 N)).setCell ⟨G + 2, 1, none⟩ (.slice a' l' c')) a' l' c' us ∧ ResJoin (fun x y => (x && y && false) || (x && !y && true) || (!x && y && false)) M ws K vs N us err ∧ Below w.heap.size w ((w1.setCell ⟨G + 2, 0, none⟩ (.int .i64 N)).setCell ⟨G + 2, 1, none⟩ (.slice a' l' c'))) := ⟨Nums.keep14 hR1 h1 (fun u e => by cases e) (fun u e => by cases e), h2, put2_below (bthen HB.out.1 h3) HB.out.2.2 _ _⟩
  clear HC HB hR1 h1 h2 h3 a0 a1 b0 b1
  dsimp only
  go_wp2
  exact bodyPost_ret (v := .tuple #[.agg #[.int .i64 N, .slice a' l' c'], .int .i64 err]) (by simp [results, Try.results19, go_sem, z0, z1]) rfl ⟨N, a', l', c', us, err, rfl, HF.out.1, HF.out.2.1, HF.out.2.2⟩
end Go.Proofs.Ytfgccldkbolkoaa

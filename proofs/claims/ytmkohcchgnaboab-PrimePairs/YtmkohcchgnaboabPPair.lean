/-
  The contract of the program's own Pair.
-/
import Derived.Test.YtmkohcchgnaboabRefPair
import Derived.Test.YtmkohcchgnaboabPSearch
import Derived.Test.YtmkohcchgnaboabPCheck
namespace Go.Proofs.Ytmkohcchgnaboab
open Go.RowKit

/-- A store into a block of two words that is no tape's leaves a tape alone. -/
theorem TapeAt.off {w : World} {g k : Nat} {L : List Int} {x y : Int} {T : TypeId} (h : TapeAt w g L) (hk : w.heap[k]? = some (.cells #[.int .u64 x, .int .u64 y] T)) (hne : g ≠ k) (u v : Value) : TapeAt ((w.setCell ⟨k, 0, none⟩ u).setCell ⟨k, 1, none⟩ v) g L := by
  have hh : ∀ j, j ≠ k → ((w.setCell ⟨k, 0, none⟩ u).setCell ⟨k, 1, none⟩ v).heap[j]? = w.heap[j]? := fun j hj => (Below.heap_setCell _ _ _ _ hj).trans (Below.heap_setCell _ _ _ _ hj)
  obtain ⟨h0, a, l, c, h1, h2⟩ := h
  refine ⟨h0, a, l, c, (hh g hne).trans h1, ⟨h2.hlen, h2.hcap, h2.hmax, fun hp => ?_, h2.word⟩⟩
  obtain ⟨b, off, ha, hc⟩ := h2.cells hp
  refine ⟨b, off, ha, fun i hi => ?_⟩
  have hb : b ≠ k := by
    rintro rfl
    have := hc i hi
    rw [cell_of_row w b (off + i) _ _ _ hk] at this
    match off + i, this with
    | 0, h => simp at h
    | 1, h => simp at h
    | n + 2, h => simp at h
  rw [← hc i hi]
  exact World.cell?_of_block (w := w) (hh b hb)

set_option maxRecDepth 20000 in
set_option maxHeartbeats 3200000 in
theorem pair_any (g : Nat) (L : List Int) (B t : Int) (w : World) (hT : TapeAt w g L) :
    Calls Try.prog 9 #[.pointer (some ⟨g, 0, none⟩), .int .i64 B, .int .i64 t] w fun e w' => PairT TapeAt w g B t L e w' := by
  have hgl := hT.lt
  have hV := (Below.refl w.heap.size w).alloc (Nat.le_refl _) (.cells #[.int .u64 0, .int .u64 0] 24)
  have hk : (w.alloc (.cells #[.int .u64 0, .int .u64 0] 24)).heap[w.heap.size]? = some (.cells #[.int .u64 0, .int .u64 0] 24) := by simp only [World.alloc, Array.getElem?_push_size]
  have hT1 := hT.below hV
  have hz1 : (w.alloc (.cells #[.int .u64 0, .int .u64 0] 24)).heap.size = w.heap.size + 1 := by simp
  have HG1 : Hid (w.grownBy (w.alloc (.cells #[.int .u64 0, .int .u64 0] 24)) (some g)) := grown_of_below hV _
  have hS := search_any g L B t _ hT1
  clear hT hT1 hV
  go_enter Try.func9, Try.ntmps9
  go_wp2_with fail
  generalize w.alloc (.cells #[.int .u64 0, .int .u64 0] 24) = w1 at *
  refine hS.mono ?_
  clear hS
  rintro e w2 ⟨p, e1, R1, rfl, hS1, hT2, hg2⟩
  have HS1 : Hid (ResSearch B t L p e1 R1) := hS1
  have hk2 := (hg2.block w.heap.size (by omega) (by simp; omega)).trans hk
  have HG2 : Hid (w.grownBy w2 (some g)) := grown_trans HG1.out hg2
  have hz2 : w.heap.size + 1 ≤ w2.heap.size := by have := hg2.size; omega
  clear hS1 hk hg2 HG1 hz1
  have c0 := cell_of_row w2 w.heap.size 0 _ _ _ hk2
  have c1 := cell_of_row w2 w.heap.size 1 _ _ _ hk2
  have f0 : w2.frozen? ⟨w.heap.size, 0, none⟩ = false := frozen_of_row w2 w.heap.size 0 _ _ hk2
  have f1 : w2.frozen? ⟨w.heap.size, 1, none⟩ = false := frozen_of_row w2 w.heap.size 1 _ _ hk2
  simp at c0 c1
  by_cases he1 : e1 = 0
  · subst he1
    have hp := HS1.out.lt
    have hS := search_any g R1 B t _ hT2
    clear hT2 c0 c1 f0 f1
    go_wp2_with fail
    refine hS.mono ?_
    clear hS
    rintro e w3 ⟨q, e2, R2, rfl, hS2, hT3, hg3⟩
    have HS2 : Hid (ResSearch B t R1 q e2 R2) := hS2
    have hk3 := (hg3.block w.heap.size (by omega) (by simp; omega)).trans hk2
    have HG3 : Hid (w.grownBy w3 (some g)) := grown_trans HG2.out hg3
    have hz3 : w.heap.size + 1 ≤ w3.heap.size := by have := hg3.size; omega
    clear hS2 hk2 hg3 HG2 hz2
    have c0 := cell_of_row w3 w.heap.size 0 _ _ _ hk3
    have c1 := cell_of_row w3 w.heap.size 1 _ _ _ hk3
    have f0 : w3.frozen? ⟨w.heap.size, 0, none⟩ = false := frozen_of_row w3 w.heap.size 0 _ _ hk3
    have f1 : w3.frozen? ⟨w.heap.size, 1, none⟩ = false := frozen_of_row w3 w.heap.size 1 _ _ hk3
    simp at c0 c1
    by_cases he2 : e2 = 0
    · subst he2
      have hq := HS2.out.lt
      have hb4 := (Below.refl w3.heap.size w3).alloc (Nat.le_refl _) (.cells #[.int .u64 (p : Int), .int .u64 (q : Int)] 24)
      have d0 : (w3.alloc (.cells #[.int .u64 (p : Int), .int .u64 (q : Int)] 24)).cell? ⟨w3.heap.size, 0, none⟩ = some (.int .u64 (p : Int)) := by simp
      have d1 : (w3.alloc (.cells #[.int .u64 (p : Int), .int .u64 (q : Int)] 24)).cell? ⟨w3.heap.size, 1, none⟩ = some (.int .u64 (q : Int)) := by simp
      have hz4 : (w3.alloc (.cells #[.int .u64 (p : Int), .int .u64 (q : Int)] 24)).heap.size = w3.heap.size + 1 := by simp
      clear c0 c1 f0 f1
      go_wp2_with fail
      generalize w3.alloc (.cells #[.int .u64 (p : Int), .int .u64 (q : Int)] 24) = w4 at *
      refine (check_any p q w4 (by omega) (by omega)).mono ?_
      rintro e w5 ⟨hC, hb5⟩
      have hB := hb4.trans (hb5.mono (by omega))
      have hT5 := hT3.below hB
      have hk5 := (hB.block w.heap.size (by omega)).trans hk3
      have HG5 : Hid (w.grownBy w5 (some g)) := grown_trans HG3.out (grown_of_below hB _)
      replace d0 := bkeep hb5 d0 rfl
      replace d1 := bkeep hb5 d1 rfl
      have c0 := cell_of_row w5 w.heap.size 0 _ _ _ hk5
      have c1 := cell_of_row w5 w.heap.size 1 _ _ _ hk5
      have f0 : w5.frozen? ⟨w.heap.size, 0, none⟩ = false := frozen_of_row w5 w.heap.size 0 _ _ hk5
      have f1 : w5.frozen? ⟨w.heap.size, 1, none⟩ = false := frozen_of_row w5 w.heap.size 1 _ _ hk5
      simp at c0 c1
      clear hb4 hb5 hB hT3 hk3 HG3 hz4
      rcases hC with ⟨hK, rfl⟩ | ⟨hK, rfl⟩
      · have HR : Hid (PairT TapeAt w g B t L (.returned (.tuple #[.agg #[.int .u64 (p : Int), .int .u64 (q : Int)], .int .i64 0])) ((w5.setCell ⟨w.heap.size, 0, none⟩ (.int .u64 (p : Int))).setCell ⟨w.heap.size, 1, none⟩ (.int .u64 (q : Int)))) :=
          ⟨p, q, 0, R2, rfl, ⟨p, 0, R1, HS1.out, .inr ⟨rfl, q, 0, R2, HS2.out, .inr (.inl ⟨rfl, hK, rfl, rfl, rfl, rfl⟩)⟩⟩, hT5.off hk5 (by omega) _ _, grown_off HG5.out (Nat.le_refl _) _ _⟩
        clear HS1 HS2 hT5 HG5 hK
        go_wp2_with fail
        exact bodyPost_ret (v := .tuple #[.agg #[.int .u64 (p : Int), .int .u64 (q : Int)], .int .i64 0]) (by simp [results, Try.results9, go_sem, c0, c1]) rfl HR.out
      · have HR : Hid (PairT TapeAt w g B t L (.returned (.tuple #[.agg #[.int .u64 ((0 : Nat) : Int), .int .u64 ((0 : Nat) : Int)], .int .i64 9])) ((w5.setCell ⟨w.heap.size, 0, none⟩ (.int .u64 0)).setCell ⟨w.heap.size, 1, none⟩ (.int .u64 0))) :=
          ⟨0, 0, 9, R2, rfl, ⟨p, 0, R1, HS1.out, .inr ⟨rfl, q, 0, R2, HS2.out, .inr (.inr ⟨rfl, hK, rfl, rfl, rfl, rfl⟩)⟩⟩, hT5.off hk5 (by omega) _ _, grown_off HG5.out (Nat.le_refl _) _ _⟩
        clear HS1 HS2 hT5 HG5 hK
        go_wp2_with fail
        exact bodyPost_ret (v := .tuple #[.agg #[.int .u64 0, .int .u64 0], .int .i64 9]) (by simp [results, Try.results9, go_sem, c0, c1]) rfl HR.out
    · have hd2 : (e2 != 0) = true := by simp [he2]
      have HR : Hid (PairT TapeAt w g B t L (.returned (.tuple #[.agg #[.int .u64 ((0 : Nat) : Int), .int .u64 ((0 : Nat) : Int)], .int .i64 e2])) ((w3.setCell ⟨w.heap.size, 0, none⟩ (.int .u64 0)).setCell ⟨w.heap.size, 1, none⟩ (.int .u64 0))) :=
        ⟨0, 0, e2, R2, rfl, ⟨p, 0, R1, HS1.out, .inr ⟨rfl, q, e2, R2, HS2.out, .inl ⟨he2, rfl, rfl, rfl, rfl⟩⟩⟩, hT3.off hk3 (by omega) _ _, grown_off HG3.out (Nat.le_refl _) _ _⟩
      clear HS1 HS2 hT3 HG3
      go_wp2_with fail
      exact bodyPost_ret (v := .tuple #[.agg #[.int .u64 0, .int .u64 0], .int .i64 e2]) (by simp [results, Try.results9, go_sem, c0, c1]) rfl HR.out
  · have hd1 : (e1 != 0) = true := by simp [he1]
    have HR : Hid (PairT TapeAt w g B t L (.returned (.tuple #[.agg #[.int .u64 ((0 : Nat) : Int), .int .u64 ((0 : Nat) : Int)], .int .i64 e1])) ((w2.setCell ⟨w.heap.size, 0, none⟩ (.int .u64 0)).setCell ⟨w.heap.size, 1, none⟩ (.int .u64 0))) :=
      ⟨0, 0, e1, R1, rfl, ⟨p, e1, R1, HS1.out, .inl ⟨he1, rfl, rfl, rfl, rfl⟩⟩, hT2.off hk2 (by omega) _ _, grown_off HG2.out (Nat.le_refl _) _ _⟩
    clear HS1 hT2 HG2
    go_wp2_with fail
    exact bodyPost_ret (v := .tuple #[.agg #[.int .u64 0, .int .u64 0], .int .i64 e1]) (by simp [results, Try.results9, go_sem, c0, c1]) rfl HR.out
end Go.Proofs.Ytmkohcchgnaboab

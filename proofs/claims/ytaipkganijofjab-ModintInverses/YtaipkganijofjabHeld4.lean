/-
  Four blocks of two cells in a row, and stores of two whole numbers.
-/
import Derived.Test.YtaipkganijofjabWhole
namespace Go.Proofs.Ytaipkganijofjab
open Go.RowKit

/-- The cells of four blocks of two cells that were made in a row stand behind what leaves old memory alone. -/
theorem held2222 {w w2 : World} {x y x' y' x'' y'' x3 y3 : Value} {t t' t'' t3 : TypeId} (hb : Below ((((w.alloc (.cells #[x, y] t)).alloc (.cells #[x', y'] t')).alloc (.cells #[x'', y''] t'')).alloc (.cells #[x3, y3] t3)).heap.size ((((w.alloc (.cells #[x, y] t)).alloc (.cells #[x', y'] t')).alloc (.cells #[x'', y''] t'')).alloc (.cells #[x3, y3] t3)) w2) :
    (w2.cell? ⟨w.heap.size, 0, none⟩ = some x ∧ w2.cell? ⟨w.heap.size, 1, none⟩ = some y) ∧ (w2.cell? ⟨w.heap.size + 1, 0, none⟩ = some x' ∧ w2.cell? ⟨w.heap.size + 1, 1, none⟩ = some y') ∧ (w2.cell? ⟨w.heap.size + 1 + 1, 0, none⟩ = some x'' ∧ w2.cell? ⟨w.heap.size + 1 + 1, 1, none⟩ = some y'') ∧
    (w2.cell? ⟨w.heap.size + 1 + 1 + 1, 0, none⟩ = some x3 ∧ w2.cell? ⟨w.heap.size + 1 + 1 + 1, 1, none⟩ = some y3) ∧
    (w2.frozen? ⟨w.heap.size + 1 + 1, 0, none⟩ = false ∧ w2.frozen? ⟨w.heap.size + 1 + 1, 1, none⟩ = false) ∧ w2.frozen? ⟨w.heap.size + 1 + 1 + 1, 0, none⟩ = false ∧ w2.frozen? ⟨w.heap.size + 1 + 1 + 1, 1, none⟩ = false := by
  obtain ⟨hc, hf⟩ := bcell hb
  have z3 : (((w.alloc (.cells #[x, y] t)).alloc (.cells #[x', y'] t')).alloc (.cells #[x'', y''] t'')).heap.size = w.heap.size + 1 + 1 + 1 := by simp
  have b3 : Below (((w.alloc (.cells #[x, y] t)).alloc (.cells #[x', y'] t')).alloc (.cells #[x'', y''] t'')).heap.size (((w.alloc (.cells #[x, y] t)).alloc (.cells #[x', y'] t')).alloc (.cells #[x'', y''] t'')) ((((w.alloc (.cells #[x, y] t)).alloc (.cells #[x', y'] t')).alloc (.cells #[x'', y''] t'')).alloc (.cells #[x3, y3] t3)) := (Below.refl _ _).alloc (Nat.le_refl _) _
  obtain ⟨p1, p2, p3, f0, f1⟩ := held222 (b3.trans (hb.mono b3.size))
  refine ⟨p1, p2, p3, ⟨?_, ?_⟩, ⟨f0, f1⟩, ?_, ?_⟩
  · rw [← z3, hc _ 0 (by simp)]; rw [World.cell?_alloc_new]; rfl
  · rw [← z3, hc _ 1 (by simp)]; rw [World.cell?_alloc_new]; rfl
  · rw [← z3, hf _ 0 (by simp)]; exact World.frozen?_alloc_new _ _ _ _
  · rw [← z3, hf _ 1 (by simp)]; exact World.frozen?_alloc_new _ _ _ _

/-- Two whole numbers are stored in two results' cells. -/
theorem Nums.put4 {w : World} {a : Option Addr} {n c g g' : Nat} {zs : List Int} (h : Nums w a n c zs) {q q' : Bool} {sa sa' : Option Addr} {sn sc sn' sc' : Nat} (hg : g' ≠ g) (c0 : w.cell? ⟨g, 0, none⟩ = some (.bool q)) (c1 : w.cell? ⟨g, 1, none⟩ = some (.slice sa sn sc))
    (d0 : w.cell? ⟨g', 0, none⟩ = some (.bool q')) (d1 : w.cell? ⟨g', 1, none⟩ = some (.slice sa' sn' sc')) (x y x' y' : Value) :
    Nums ((((w.setCell ⟨g, 0, none⟩ x).setCell ⟨g, 1, none⟩ y).setCell ⟨g', 0, none⟩ x').setCell ⟨g', 1, none⟩ y') a n c zs :=
  (h.put2 c0 c1 x y).put2 ((put2_other hg _ _).trans d0) ((put2_other hg _ _).trans d1) x' y'

theorem bput4 {B : Nat} {a w : World} (h : Below B a w) {g g' : Nat} (hg : B ≤ g) (hg' : B ≤ g') (x y x' y' : Value) :
    Below B a ((((w.setCell ⟨g, 0, none⟩ x).setCell ⟨g, 1, none⟩ y).setCell ⟨g', 0, none⟩ x').setCell ⟨g', 1, none⟩ y') :=
  (((h.setCell (p := ⟨g, 0, none⟩) hg x).setCell (p := ⟨g, 1, none⟩) hg y).setCell (p := ⟨g', 0, none⟩) hg' x').setCell (p := ⟨g', 1, none⟩) hg' y'

/-- What a pair of whole numbers that are stored in results' cells reads as. -/
theorem put4_cells {w : World} {g g' : Nat} (hg : g' ≠ g) {q q' : Bool} {sa sa' : Option Addr} {sn sc sn' sc' : Nat} (c0 : w.cell? ⟨g, 0, none⟩ = some (.bool q)) (c1 : w.cell? ⟨g, 1, none⟩ = some (.slice sa sn sc))
    (d0 : w.cell? ⟨g', 0, none⟩ = some (.bool q')) (d1 : w.cell? ⟨g', 1, none⟩ = some (.slice sa' sn' sc')) (x y x' y' : Value) :
    (((((w.setCell ⟨g, 0, none⟩ x).setCell ⟨g, 1, none⟩ y).setCell ⟨g', 0, none⟩ x').setCell ⟨g', 1, none⟩ y').cell? ⟨g, 0, none⟩ = some x ∧ ((((w.setCell ⟨g, 0, none⟩ x).setCell ⟨g, 1, none⟩ y).setCell ⟨g', 0, none⟩ x').setCell ⟨g', 1, none⟩ y').cell? ⟨g, 1, none⟩ = some y) ∧
    ((((w.setCell ⟨g, 0, none⟩ x).setCell ⟨g, 1, none⟩ y).setCell ⟨g', 0, none⟩ x').setCell ⟨g', 1, none⟩ y').cell? ⟨g', 0, none⟩ = some x' ∧ ((((w.setCell ⟨g, 0, none⟩ x).setCell ⟨g, 1, none⟩ y).setCell ⟨g', 0, none⟩ x').setCell ⟨g', 1, none⟩ y').cell? ⟨g', 1, none⟩ = some y' := by
  refine ⟨⟨?_, ?_⟩, ?_, ?_⟩
  · rw [put2_other (Ne.symm hg), World.cell?_setCell_other _ _ _ _ (by intro e; cases e)]; exact World.cell?_setCell_same _ _ _ c0
  · rw [put2_other (Ne.symm hg)]; refine World.cell?_setCell_same _ _ _ (u := .slice sa sn sc) ?_; rw [World.cell?_setCell_other _ _ _ _ (by intro e; cases e)]; exact c1
  · rw [World.cell?_setCell_other _ _ _ _ (by intro e; cases e)]; exact World.cell?_setCell_same _ _ _ ((put2_other hg _ _).trans d0)
  · refine World.cell?_setCell_same _ _ _ (u := .slice sa' sn' sc') ?_; rw [World.cell?_setCell_other _ _ _ _ (by intro e; cases e)]; exact (put2_other hg _ _).trans d1

end Go.Proofs.Ytaipkganijofjab

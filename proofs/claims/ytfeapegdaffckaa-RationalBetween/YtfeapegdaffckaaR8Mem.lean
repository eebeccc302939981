/-
  Variables of whole numbers and of fractions in memory; a whole number as a call handed it back.
-/
import Derived.Test.YtfeapegdaffckaaRef8B
import Derived.Test.YtfeapegdaffckaaDivOf
import Derived.Test.YtfeapegdaffckaaWAtA
namespace Go.Proofs.Ytfeapegdaffckaa
open Go.RowKit

/-- The cells of a whole number's variable. -/
structure Cell2 (w : World) (g : Nat) (p : Bool) (a : Option Addr) (l c : Nat) : Prop where
  c0 : w.cell? ⟨g, 0, none⟩ = some (.bool p)
  c1 : w.cell? ⟨g, 1, none⟩ = some (.slice a l c)
  f0 : w.frozen? ⟨g, 0, none⟩ = false
  f1 : w.frozen? ⟨g, 1, none⟩ = false
theorem Cell2.lt {w : World} {g : Nat} {p : Bool} {a : Option Addr} {l c : Nat} (h : Cell2 w g p a l c) : g < w.heap.size := World.block_lt_of_cell? _ _ h.c0
theorem Cell2.below {w w' : World} {g : Nat} {p : Bool} {a : Option Addr} {l c : Nat} (h : Cell2 w g p a l c) (hb : Below w.heap.size w w') : Cell2 w' g p a l c :=
  ⟨bkeep hb h.c0 rfl, bkeep hb h.c1 rfl, ((bcell hb).2 _ _ h.lt).trans h.f0, ((bcell hb).2 _ _ h.lt).trans h.f1⟩
theorem Cell2.new (w : World) (p : Bool) (a : Option Addr) (l c : Nat) : Cell2 (w.alloc (.cells #[.bool p, .slice a l c] 25)) w.heap.size p a l c :=
  ⟨by simp, by simp, by simp, by simp⟩
theorem Cell3.lt {w : World} {g : Nat} {p : Bool} {a b : Option Addr} {l c l' c' : Nat} (h : Cell3 w g p a l c b l' c') : g < w.heap.size := World.block_lt_of_cell? _ _ h.c0
/-- Of a whole number by a number, both far from the limit. -/
theorem prod_16 {x : Int} {v : Nat} (hx : (x.natAbs : Int) < 18446744073709551616 ^ 16) (hv : ((v : Nat) : Int) < 18446744073709551616 ^ 16) : ((x * (v : Int)).natAbs : Int) < 18446744073709551616 ^ 32 := by
  rw [Int.natAbs_mul, Int.natCast_mul]
  have e : (18446744073709551616 : Int) ^ 32 = 18446744073709551616 ^ 16 * 18446744073709551616 ^ 16 := by decide
  rw [e]
  have h1 : ((v : Int).natAbs : Int) = (v : Int) := by simp
  rw [h1]
  rcases Nat.eq_zero_or_pos v with c | c
  · subst c
    simp
  · exact Int.lt_of_lt_of_le (Int.mul_lt_mul_of_pos_right hx (by omega)) (Int.mul_le_mul_of_nonneg_left (by omega) (by decide))

theorem put3_cell {w : World} {g g' i : Nat} (h : g' ≠ g) (x y z : Value) : (((w.setCell ⟨g, 0, none⟩ x).setCell ⟨g, 1, none⟩ y).setCell ⟨g, 2, none⟩ z).cell? ⟨g', i, none⟩ = w.cell? ⟨g', i, none⟩ := by
  rw [World.cell?_setCell_other, put2_other h]
  intro e; cases e; exact h rfl
theorem Cell3.put {w : World} {g : Nat} {p : Bool} {a b : Option Addr} {l c l' c' : Nat} (h : Cell3 w g p a l c b l' c') (q : Bool) (d e : Option Addr) (m k m' k' : Nat) :
    Cell3 (((w.setCell ⟨g, 0, none⟩ (.bool q)).setCell ⟨g, 1, none⟩ (.slice d m k)).setCell ⟨g, 2, none⟩ (.slice e m' k')) g q d m k e m' k' := by
  obtain ⟨h0, h1, h2, f0, f1, f2⟩ := h
  refine ⟨?_, ?_, ?_, by simp [f0], by simp [f1], by simp [f2]⟩
  · rw [World.cell?_setCell_other, World.cell?_setCell_other]
    · exact World.cell?_setCell_same _ _ _ h0
    · simp
    · simp
  · rw [World.cell?_setCell_other]
    · refine World.cell?_setCell_same (u := .slice a l c) _ _ _ ?_
      rw [World.cell?_setCell_other]
      · exact h1
      · simp
    · simp
  · refine World.cell?_setCell_same (u := .slice b l' c') _ _ _ ?_
    rw [World.cell?_setCell_other, World.cell?_setCell_other]
    · exact h2
    · simp
    · simp
theorem Cell3.other {w : World} {g g' : Nat} {p : Bool} {a b : Option Addr} {l c l' c' : Nat} (h : Cell3 w g' p a l c b l' c') (hne : g' ≠ g) (x y z : Value) :
    Cell3 (((w.setCell ⟨g, 0, none⟩ x).setCell ⟨g, 1, none⟩ y).setCell ⟨g, 2, none⟩ z) g' p a l c b l' c' := by
  obtain ⟨h0, h1, h2, f0, f1, f2⟩ := h
  exact ⟨(put3_cell hne _ _ _).trans h0, (put3_cell hne _ _ _).trans h1, (put3_cell hne _ _ _).trans h2, by simp [f0], by simp [f1], by simp [f2]⟩
end Go.Proofs.Ytfeapegdaffckaa

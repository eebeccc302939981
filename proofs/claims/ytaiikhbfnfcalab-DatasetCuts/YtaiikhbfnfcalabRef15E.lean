/-
  The document's Left. Written by mk/r15left.py.
-/
import Derived.Test.YtaiikhbfnfcalabR15A
import Derived.Test.YtaiikhbfnfcalabR14A
namespace Go.Proofs.Ytaiikhbfnfcalab
open Go.RowKit

theorem ints_snoc15 (ns : List Nat) (k : Nat) : ints (ns ++ [k]) = ints ns ++ [(k : Int)] := by simp [ints]
/-- Left, under way. -/
structure LfAt (w : World) (g R : Nat) (v : TV) (t : Tab) (W : World) : Prop where
  var : TVar W g v
  tab : TabAt W v t
  r : W.heap[R]? = some (.cells #[.int .i64 0, .slice none 0 0] 30 (0, 0))
  new : w.heap.size ≤ R
  below : Below w.heap.size w W
theorem LfAt.grow {w : World} {g R : Nat} {v : TV} {t : Tab} {W W' : World} (h : LfAt w g R v t W) (hb : Below W.heap.size W W') : LfAt w g R v t W' := ⟨h.var.below hb, h.tab.below hb, (hb.block R (Array.getElem?_eq_some_iff.1 h.r).1).trans h.r, h.new, bthen h.below hb⟩

/-- What Left makes. -/
def LeftT15 (t : Tab) (col cut : Int) (w : World) (e : Ending) (w' : World) : Prop := ∃ N a l c ws err, e = .returned (.tuple #[.agg #[.int .i64 N, .slice a l c], .int .i64 err]) ∧ Nums w' a l c ws ∧ ResLeft t col cut err N ws ∧ Below w.heap.size w w'
theorem inList_nums15 {n : Nat} {f : Nat → Bool} (i : Nat) (hi : i < n) : inList (ints (numsOfS n f)) i = f i := by
  unfold inList
  have e : ((i : Int) ∈ ints (numsOfS n f)) ↔ f i = true := by
    unfold ints
    rw [List.mem_map]
    constructor
    · rintro ⟨k, h1, h2⟩
      obtain rfl : k = i := by omega
      exact ((numsOfS_mem n f k).1 h1).2
    · intro h
      exact ⟨i, (numsOfS_mem n f i).2 ⟨hi, h⟩, rfl⟩
  by_cases c : f i = true
  · rw [c]
    simpa using e.2 c
  · rw [Bool.not_eq_true] at c
    rw [c]
    rw [decide_eq_false]
    intro q
    have := e.1 q
    rw [c] at this
    cases this
theorem put2_cells15 {W : World} {R : Nat} {c0 c1 x y : Value} (hr : W.heap[R]? = some (.cells #[c0, c1] 30 (0, 0))) : ((W.setCell ⟨R, 0, none⟩ x).setCell ⟨R, 1, none⟩ y).cell? ⟨R, 0, none⟩ = some x ∧ ((W.setCell ⟨R, 0, none⟩ x).setCell ⟨R, 1, none⟩ y).cell? ⟨R, 1, none⟩ = some y := by
  have k1 := heap_setCell_same W R 0 _ _ x hr
  have k2 := heap_setCell_same _ R 1 _ _ y k1
  exact ⟨by rw [cell_of_row _ _ _ _ _ _ k2]; rfl, by rw [cell_of_row _ _ _ _ _ _ k2]; rfl⟩
theorem Nums.none15 (w : World) : Nums w none 0 0 [] := ⟨rfl, Nat.le_refl _, Nat.zero_le _, fun h => absurd h (Nat.lt_irrefl _), fun x hx => by cases hx⟩
theorem Nums.putR15 {W : World} {R : Nat} {a : Option Addr} {l c : Nat} {ws : List Int} {x y : Value} {c0 c1 : Value} (h : Nums W a l c ws) (hr : W.heap[R]? = some (.cells #[c0, c1] 30 (0, 0))) (hx : ∀ z, c0 ≠ .int .u64 z) (hy : ∀ z, c1 ≠ .int .u64 z) : Nums ((W.setCell ⟨R, 0, none⟩ x).setCell ⟨R, 1, none⟩ y) a l c ws := by
  refine ⟨h.hlen, h.hcap, h.hmax, fun hp => ?_, h.digs⟩
  obtain ⟨b, off, e, hc⟩ := h.cells hp
  refine ⟨b, off, e, fun i hi => ?_⟩
  have hne : b ≠ R := fun q => by
    subst q
    have k := hc i hi
    rw [cell_of_row _ _ _ _ _ _ hr] at k
    rcases Nat.lt_or_ge (off + i) 2 with c | c
    · have : off + i = 0 ∨ off + i = 1 := by omega
      rcases this with c | c
      · rw [c] at k
        exact hx _ (by simpa using k)
      · rw [c] at k
        exact hy _ (by simpa using k)
    · rw [Array.getElem?_eq_none (by simpa using c)] at k
      cases k
  rw [World.cell?_setCell_other _ _ _ _ (fun q => hne (congrArg Addr.block q).symm), World.cell?_setCell_other _ _ _ _ (fun q => hne (congrArg Addr.block q).symm)]
  exact hc i hi
end Go.Proofs.Ytaiikhbfnfcalab

/-
  The document's sets: Of, its statements. Written by mk/r14of.py.
-/
import Derived.Test.YtfgccldkbolkoaaDoorRef14B
import Derived.Test.YtfgccldkbolkoaaDoorPieces
import Derived.Test.YtfgccldkbolkoaaDoorNatB
namespace Go.Proofs.YtfgccldkbolkoaaDoor
open Go.RowKit

/-- Of, under way: its result's cells, the set's variable, the set's words. -/
structure OfAt (w W : World) (R s g : Nat) (n q : Nat) (ws : List Int) : Prop where
  below : Below w.heap.size w W
  r : W.heap[R]? = some (.cells #[.int .i64 0, .slice none 0 0] 24 (0, 0))
  v : W.heap[s]? = some (.cells #[.int .i64 (n : Int), .slice (some ⟨g, 0, none⟩) q q] 24 (0, 0))
  b : Blk W g ws
  len : ws.length = q
  new : w.heap.size ≤ R ∧ w.heap.size ≤ s ∧ w.heap.size ≤ g
  ne : g ≠ R ∧ g ≠ s ∧ R ≠ s
theorem Blk.lt14 {w : World} {g : Nat} {L : List Int} (h : Blk w g L) : g < w.heap.size := by
  obtain ⟨cur, h, _⟩ := h
  exact (Array.getElem?_eq_some_iff.1 h).1
theorem OfAt.grow {w W W' : World} {R s g n q : Nat} {ws : List Int} (h : OfAt w W R s g n q ws) (hb : Below W.heap.size W W') : OfAt w W' R s g n q ws := by
  have hr := (Array.getElem?_eq_some_iff.1 h.r).1
  have hv := (Array.getElem?_eq_some_iff.1 h.v).1
  refine ⟨h.below.trans (hb.mono h.below.size), (hb.block R hr).trans h.r, (hb.block s hv).trans h.v, ?_, h.len, h.new, h.ne⟩
  have hg := h.b.lt14
  obtain ⟨cur, k1, k2⟩ := h.b
  exact ⟨cur, (hb.block g hg).trans k1, k2⟩
theorem OfAt.set {w W : World} {R s g n q : Nat} {ws : List Int} (h : OfAt w W R s g n q ws) (j : Nat) (x : Int) : OfAt w (W.setCell ⟨g, j, none⟩ (.int .u64 x)) R s g n q (ws.set j x) := by
  have gr := grown_set W g j (.int .u64 x)
  have hr := (Array.getElem?_eq_some_iff.1 h.r).1
  have hv := (Array.getElem?_eq_some_iff.1 h.v).1
  exact ⟨h.below.setCell (p := ⟨g, j, none⟩) h.new.2.2 _, (gr.block R hr (fun e => h.ne.1 (Option.some.inj e).symm)).trans h.r, (gr.block s hv (fun e => h.ne.2.1 (Option.some.inj e).symm)).trans h.v, h.b.set j x, by rw [List.length_set]; exact h.len, h.new, h.ne⟩
theorem OfAt.cells {w W : World} {R s g n q : Nat} {ws : List Int} (h : OfAt w W R s g n q ws) : (W.cell? ⟨R, 0, none⟩ = some (.int .i64 0) ∧ W.cell? ⟨R, 1, none⟩ = some (.slice none 0 0) ∧ W.frozen? ⟨R, 0, none⟩ = false ∧ W.frozen? ⟨R, 1, none⟩ = false) ∧ W.cell? ⟨s, 0, none⟩ = some (.int .i64 (n : Int)) ∧ W.cell? ⟨s, 1, none⟩ = some (.slice (some ⟨g, 0, none⟩) q q) := ⟨⟨by rw [cell_of_row _ _ _ _ _ _ h.r]; rfl, by rw [cell_of_row _ _ _ _ _ _ h.r]; rfl, frozen_of_row _ _ _ _ _ h.r, frozen_of_row _ _ _ _ _ h.r⟩, by rw [cell_of_row _ _ _ _ _ _ h.v]; rfl, by rw [cell_of_row _ _ _ _ _ _ h.v]; rfl⟩
theorem put2_below {w W : World} {R : Nat} (hb : Below w.heap.size w W) (hR : w.heap.size ≤ R) (x y : Value) : Below w.heap.size w ((W.setCell ⟨R, 0, none⟩ x).setCell ⟨R, 1, none⟩ y) := (hb.setCell (p := ⟨R, 0, none⟩) hR _).setCell (p := ⟨R, 1, none⟩) hR _
/-- What a call that makes a set makes. -/
def OfT14 (n : Int) (xs : List Int) (w : World) (e : Ending) (w' : World) : Prop := ∃ N a l c ws err, e = .returned (.tuple #[.agg #[.int .i64 N, .slice a l c], .int .i64 err]) ∧ Nums w' a l c ws ∧ ResOf n xs N ws err ∧ Below w.heap.size w w'

end Go.Proofs.YtfgccldkbolkoaaDoor

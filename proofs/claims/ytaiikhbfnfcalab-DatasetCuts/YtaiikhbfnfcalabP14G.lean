/-
  Stage 14's laws: few; variables that hold a set. Written by mk/p14laws.py.
-/
import Derived.Test.YtaiikhbfnfcalabR14F
namespace Go.Proofs.Ytaiikhbfnfcalab
open Go.RowKit

def FewT14 (w : World) (e : Ending) (w' : World) : Prop := ∃ b, e = .returned (.bool b) ∧ w = w'
/-- A variable that holds a set. -/
def SetVar (W : World) (g : Nat) (N : Int) (a : Option Addr) (l c : Nat) : Prop := W.heap[g]? = some (.cells #[.int .i64 N, .slice a l c] 30 (0, 0))
theorem SetVar.cells {W : World} {g : Nat} {N : Int} {a : Option Addr} {l c : Nat} (h : SetVar W g N a l c) : W.cell? ⟨g, 0, none⟩ = some (.int .i64 N) ∧ W.cell? ⟨g, 1, none⟩ = some (.slice a l c) := ⟨(put2_cells h (.int .i64 N) (.slice a l c)).1.1, (put2_cells h (.int .i64 N) (.slice a l c)).2.1.1⟩
theorem SetVar.lt {W : World} {g : Nat} {N : Int} {a : Option Addr} {l c : Nat} (h : SetVar W g N a l c) : g < W.heap.size := (Array.getElem?_eq_some_iff.1 h).1
theorem SetVar.below {W W' : World} {g : Nat} {N : Int} {a : Option Addr} {l c : Nat} (h : SetVar W g N a l c) (hb : Below W.heap.size W W') : SetVar W' g N a l c := (hb.block g h.lt).trans h
theorem SetVar.new (W : World) (N : Int) (a : Option Addr) (l c : Nat) : SetVar (W.alloc (.cells #[.int .i64 N, .slice a l c] 30)) W.heap.size N a l c := heap_alloc_new W _
theorem SetVar.put {W : World} {g : Nat} {N : Int} {a : Option Addr} {l c : Nat} (h : SetVar W g N a l c) (N' : Int) (a' : Option Addr) (l' c' : Nat) : SetVar ((W.setCell ⟨g, 0, none⟩ (.int .i64 N')).setCell ⟨g, 1, none⟩ (.slice a' l' c')) g N' a' l' c' := by
  have k1 := heap_setCell_same W g 0 _ _ (.int .i64 N') h
  exact heap_setCell_same _ g 1 _ _ (.slice a' l' c') k1
theorem SetVar.other {W : World} {g r : Nat} {N : Int} {a : Option Addr} {l c : Nat} (h : SetVar W g N a l c) (hr : g ≠ r) (x y : Value) : SetVar ((W.setCell ⟨r, 0, none⟩ x).setCell ⟨r, 1, none⟩ y) g N a l c := ((World.grownBy.trans (grown_set W r 0 x) (grown_set (W.setCell ⟨r, 0, none⟩ x) r 1 y)).block g h.lt (fun e => hr (Option.some.inj e))).trans h
theorem SetVar.nums {W : World} {r : Nat} {N : Int} {a : Option Addr} {l c : Nat} (h : SetVar W r N a l c) {b : Option Addr} {m d : Nat} {ws : List Int} (hn : Nums W b m d ws) (x y : Value) : Nums ((W.setCell ⟨r, 0, none⟩ x).setCell ⟨r, 1, none⟩ y) b m d ws := Nums.keep14 h hn (fun u e => by cases e) (fun u e => by cases e)
theorem right1 (x : Int) (hx : x = 0 ∨ x = 1) : RightS 1 [x] := ⟨by decide, by decide, by simp, fun i h1 h2 => by
  have h3 : i < 64 := by simpa using h2
  have h0 : ∀ j, j < 64 → 1 ≤ j → wbit [0] j = false ∧ wbit [1] j = false := by decide
  have := h0 i h3 (by omega)
  rcases hx with rfl | rfl
  · exact this.1
  · exact this.2⟩
theorem ResJoin.one {op : Bool → Bool → Bool} {N : Int} {us : List Int} {err : Int} (h : ResJoin op 1 [1] 1 [0] N us err) : N = 1 := by
  rcases h with ⟨h0, -⟩ | ⟨-, h1, -⟩
  · exact absurd ⟨right1 1 (.inr rfl), right1 0 (.inl rfl), rfl⟩ h0
  · exact h1

end Go.Proofs.Ytaiikhbfnfcalab

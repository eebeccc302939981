/-
  A region that draws its order, whose operations yield one value in every world that has kept what lay in a world V: one walk in the order of the text serves every order.
-/
import Derived.Test.YtnbdbahfekneoaaGreatNatA
import Derived.BigQuiet
namespace Go.Proofs.YtnbdbahfekneoaaGreat
open Go.RowKit

/-- A world that has kept what lay in V. -/
def SW (V : World) : Type := { w : World // Below V.heap.size V w }
def SW.w {V : World} (x : SW V) : World := x.val
theorem SW.below {V : World} (x : SW V) : Below V.heap.size V x.w := x.property
theorem SW.inhabited (V : World) : Nonempty (SW V) := ⟨⟨V, Below.refl _ _⟩⟩
theorem SW.cell {V : World} {p : Addr} {v : Value} (h : V.cell? p = some v) (x : SW V) : x.w.cell? p = some v :=
  (x.below.cell (p := p) (World.block_lt_of_cell? V _ h)).trans h

theorem wp_region_class {id : Nat} {Q : Exit → Act → World → Prop} {a : Act} {w : World} {l : List Oper} (V : World) (hm : Tryz.prog.follows .mixedOrders = true) (hB : Region.lexB .any l.toArray = true) (hC : Below V.heap.size V w)
    (h : wpQuiet Tryz.prog l.toArray (fun w' => ∃ x : SW V, w' = x.w) (fun a' => ∀ w', (∃ x : SW V, w' = x.w) → Q .normal a' w') l a) : (Code.region id l.toArray true).wp Tryz.prog Q a w :=
  wp_region_quiet (C := fun w' => ∃ x : SW V, w' = x.w) hm hB ⟨⟨{ w with drawn := w.drawn + 1 }, ⟨hC.os, hC.tape, hC.output, hC.size, hC.block⟩⟩, rfl⟩ (by simpa using h)

/-- A contract that leaves old memory alone, met in a world of the class. -/
theorem Calls.inClass {V : World} {f : FuncId} {args : Array Value} {x : SW V} {v : Value} (h : Calls Tryz.prog f args x.w fun e w' => e = .returned v ∧ Below x.w.heap.size x.w w') :
    Calls Tryz.prog f args x.w fun e w'' => e = .returned v ∧ ∃ y : SW V, w'' = y.w :=
  h.mono fun _ w' ⟨he, hb⟩ => ⟨he, ⟨w', x.below.trans (hb.mono x.below.size)⟩, rfl⟩
end Go.Proofs.YtnbdbahfekneoaaGreat

/-
  The program's tables: slices.Equal of whole numbers; what is asked of all tables. Written by mk/x15k.py.
  The program's tables: what is asked of all tables. Written by mk/x15l.py.
  The program's Join, its statements. Written by mk/x15m.py.
  The program's Join, its loops. Written by mk/x15m.py.
  The program's Join, the whole. Written by mk/x15m.py.
-/
import Derived.Test.YtaiikhbfnfcalabX15D
import Derived.Test.YtaiikhbfnfcalabBX15T
import Derived.Deep.RegionHeld3
import Derived.Test.YtaiikhbfnfcalabR15K
namespace Go.Proofs.Ytaiikhbfnfcalab
open Go.RowKit

/-- A table may be, and its ids are those. -/
def SameIds15 (t t0 : Tab) : Prop := TabOk t ∧ t.ids = t0.ids
def LikeT15 (t t0 : Tab) (w : World) (e : Ending) (w' : World) : Prop := ∃ b, e = .returned (.bool b) ∧ (b = true ↔ SameIds15 t t0) ∧ Below w.heap.size w w'
end Go.Proofs.Ytaiikhbfnfcalab

namespace Go.Proofs.Ytaiikhbfnfcalab
open Go.RowKit

end Go.Proofs.Ytaiikhbfnfcalab

namespace Go.Proofs.Ytaiikhbfnfcalab
open Go.RowKit

theorem wpList_appIsAt (w : World) {ops : Array Oper} {rest : List Oper} {o : Oper} {a : Act} {Q : Exit → Act → World → Prop} (hgd : o.guard = none) (s x : Operand)
    (ho : o.op = .call { callee := .builtin .append, args := #[s, x], argTypes := #[22, 22] })
    (base : Nat) (v : Value) (xs : List Int) (hs : a.eval s = v) (hown : IOwn w base v xs) (p : Option Addr) (l c : Nat) (ys : List Int) (hx : a.eval x = .slice p l c) (hL : Lsts w p l c ys) (hn : xs.length + l < 1000000) (hbase : base ≤ w.heap.size)
    (h : ∀ v' w', IOwn w' base v' (xs ++ ys) → w.grownBy w' v.ownBlock → (v'.ownBlock = v.ownBlock ∨ v'.ownBlock = some w.heap.size) → wpList Try.prog ops Q rest (a.put o.dst v') w') : wpList Try.prog ops Q (o :: rest) a w := by
  obtain ⟨v', w', hr, h2, h3, h4⟩ := run_appIsAt w o.type hown hL hn hbase
  exact Lib.wpList_append_run w hgd s x _ _ ho _ _ hs hx _ w' hr (h v' w' h2 h3 h4)
end Go.Proofs.Ytaiikhbfnfcalab

namespace Go.Proofs.Ytaiikhbfnfcalab
open Go.RowKit

end Go.Proofs.Ytaiikhbfnfcalab

namespace Go.Proofs.Ytaiikhbfnfcalab
open Go.RowKit

end Go.Proofs.Ytaiikhbfnfcalab

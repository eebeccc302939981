/-
  The document's configurations: Right. Written by mk/r16a.py.
  The document's sums and derivatives: RightSum, Grad. Written by mk/r16a.py.
  The document's Weight: its statements. Written by mk/r16w.py.
-/
import Derived.Test.YtchmlfjjgehbkaaGreatD17A
import Derived.Test.YtchmlfjjgehbkaaGreatNatB
import Derived.Test.YtchmlfjjgehbkaaGreatPieces
import Derived.Test.YtchmlfjjgehbkaaGreatW12B
import Derived.Test.YtchmlfjjgehbkaaGreatR14A
import Derived.Test.YtchmlfjjgehbkaaGreatR8P
import Derived.Test.YtchmlfjjgehbkaaGreatModR
import Derived.Deep.RegionWith
import Derived.Deep.RegionHeld3
import Derived.BigRegion
namespace Go.Proofs.YtchmlfjjgehbkaaGreat
open Go.RowKit

/-- What stands in a configuration's cells, seen through what is read. -/
def RgtT16 (c : Cfg) (w : World) (e : Ending) (w' : World) : Prop := ∃ b, e = .returned (.bool b) ∧ (b = true ↔ CfgOk c) ∧ Below w.heap.size w w'

end Go.Proofs.YtchmlfjjgehbkaaGreat

namespace Go.Proofs.YtchmlfjjgehbkaaGreat
open Go.RowKit

set_option maxRecDepth 20000 in
set_option maxHeartbeats 3200000 in
theorem r16sum_any (G H : Int) (w : World) : Calls Tryz.prog 29 #[.agg #[.int .i64 G, .int .i64 H]] w fun e w' => ∃ b, e = .returned (.bool b) ∧ (b = true ↔ SumOk G H) ∧ Below w.heap.size w w' := by
  have HB := (show Hid _ from balloc w (.cells #[.int .i64 G, .int .i64 H] 23))
  by_cases h0 : -1099511627776 ≤ G
  case neg =>
    have d0 : decide (-1099511627776 ≤ G) = false := decide_eq_false h0
    have HX : Hid (¬ SumOk G H) := fun e => h0 e.1
    clear h0
    go_enter Tryz.func29, Tryz.ntmps29
    go_wp2
    go_ret
    exact ⟨false, rfl, ⟨fun e => (by cases e), fun e => absurd e HX.out⟩, HB.out⟩
  have d0 : decide (-1099511627776 ≤ G) = true := decide_eq_true h0
  by_cases h1 : G ≤ 1099511627776
  case neg =>
    have d1 : decide (G ≤ 1099511627776) = false := decide_eq_false h1
    have HX : Hid (¬ SumOk G H) := fun e => h1 e.2.1
    clear h0 h1
    go_enter Tryz.func29, Tryz.ntmps29
    go_wp2
    go_ret
    exact ⟨false, rfl, ⟨fun e => (by cases e), fun e => absurd e HX.out⟩, HB.out⟩
  have d1 : decide (G ≤ 1099511627776) = true := decide_eq_true h1
  by_cases h2 : 0 ≤ H
  case neg =>
    have d2 : decide (0 ≤ H) = false := decide_eq_false h2
    have HX : Hid (¬ SumOk G H) := fun e => h2 e.2.2.1
    clear h0 h1 h2
    go_enter Tryz.func29, Tryz.ntmps29
    go_wp2
    go_ret
    exact ⟨false, rfl, ⟨fun e => (by cases e), fun e => absurd e HX.out⟩, HB.out⟩
  have d2 : decide (0 ≤ H) = true := decide_eq_true h2
  by_cases h3 : H ≤ 1048576
  case neg =>
    have d3 : decide (H ≤ 1048576) = false := decide_eq_false h3
    have HX : Hid (¬ SumOk G H) := fun e => h3 e.2.2.2
    clear h0 h1 h2 h3
    go_enter Tryz.func29, Tryz.ntmps29
    go_wp2
    go_ret
    exact ⟨false, rfl, ⟨fun e => (by cases e), fun e => absurd e HX.out⟩, HB.out⟩
  have d3 : decide (H ≤ 1048576) = true := decide_eq_true h3
  have HX : Hid (SumOk G H) := ⟨h0, h1, h2, h3⟩
  clear h0 h1 h2 h3
  go_enter Tryz.func29, Tryz.ntmps29
  go_wp2
  go_ret
  exact ⟨true, rfl, ⟨fun _ => HX.out, fun _ => rfl⟩, HB.out⟩
def GradT16 (c : Cfg) (s l : Int) (w : World) (e : Ending) (w' : World) : Prop := ∃ g err, e = .returned (.tuple #[.int .i64 g, .int .i64 err]) ∧ ResGrad c s l g err ∧ Below w.heap.size w w'
end Go.Proofs.YtchmlfjjgehbkaaGreat

namespace Go.Proofs.YtchmlfjjgehbkaaGreat
open Go.RowKit

/-- A variable that holds sums. -/
def SVar (W : World) (g : Nat) (G H : Int) : Prop := W.heap[g]? = some (.cells #[.int .i64 G, .int .i64 H] 23 (0, 0))
theorem SVar.cell {W : World} {g : Nat} {G H : Int} (h : SVar W g G H) : W.cell? ⟨g, 0, none⟩ = some (.int .i64 G) ∧ W.cell? ⟨g, 1, none⟩ = some (.int .i64 H) := ⟨by rw [cell_of_row _ _ _ _ _ _ h]; rfl, by rw [cell_of_row _ _ _ _ _ _ h]; rfl⟩
theorem SVar.lt {W : World} {g : Nat} {G H : Int} (h : SVar W g G H) : g < W.heap.size := (Array.getElem?_eq_some_iff.1 h).1
theorem SVar.below {W W' : World} {g : Nat} {G H : Int} (h : SVar W g G H) (hb : Below W.heap.size W W') : SVar W' g G H := (hb.block g h.lt).trans h

theorem big16 {x : Int} (h : -2305843009213693952 ≤ x ∧ x ≤ 2305843009213693952) : ((x.natAbs : Nat) : Int) < 18446744073709551616 ^ 64 := by
  have h1 : ((x.natAbs : Nat) : Int) < 18446744073709551616 := by omega
  exact Int.lt_of_lt_of_le h1 (by decide)

end Go.Proofs.YtchmlfjjgehbkaaGreat

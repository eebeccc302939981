/-
  Walks of stage 5's laws over tapes, from the contracts of the program's own functions.
-/
import Derived.Test.YtmkohcchgnaboabRefSearch
namespace Go.Proofs.Ytmkohcchgnaboab
open Go.RowKit

/-- The program searches a tape for a prime. -/
def SearchOk : Prop := (∀ (B t : Int) (w : World), Calls Try.prog 23 #[.pointer none, .int .i64 B, .int .i64 t] w fun e w' => e = .returned (.tuple #[.int .u64 0, .int .i64 1]) ∧ Below w.heap.size w w') ∧
  ∀ (g : Nat) (L : List Int) (B t : Int) (w : World), TapeAt w g L → Calls Try.prog 23 #[.pointer (some ⟨g, 0, none⟩), .int .i64 B, .int .i64 t] w fun e w' => SearchT TapeAt w g B t L e w'

theorem grown_new {w w1 w2 : World} {g : Nat} (h : Below w.heap.size w w1) (hg : w.heap.size ≤ g) (k : w1.grownBy w2 (some g)) : Below w.heap.size w w2 :=
  h.grown k h.size (fun j hj => by cases hj; exact hg)

end Go.Proofs.Ytmkohcchgnaboab

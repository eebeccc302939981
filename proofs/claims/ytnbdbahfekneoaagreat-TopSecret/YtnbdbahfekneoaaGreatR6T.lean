/-
  The contract of the document's Draw.
  The walk of stage 6's law on numbers hidden behind one from a tape.
-/
import Derived.Test.YtnbdbahfekneoaaGreatP6A
import Derived.Test.YtnbdbahfekneoaaGreatR6A
import Derived.Test.YtnbdbahfekneoaaGreatTapeP
namespace Go.Proofs.YtnbdbahfekneoaaGreat
open Go.RowKit

end Go.Proofs.YtnbdbahfekneoaaGreat

namespace Go.Proofs.YtnbdbahfekneoaaGreat
open Go.RowKit

/-- The program hides a number behind one from a tape. -/
def DrawOk : Prop :=
  (∀ (a b : Option Addr) (la ca lb cb : Nat) (ns ms : List Int) (w : World), Nums w a la ca ns → Nums w b lb cb ms → Calls Tryz.prog 6 #[.slice a la ca, .slice b lb cb, .pointer none] w fun e w' => ∃ x l c, e = .returned (.tuple #[.slice x l c, .int .i64 (noneF ns ms)]) ∧ Nums w' x l c [] ∧ Below w.heap.size w w') ∧
  ∀ (a b : Option Addr) (la ca lb cb : Nat) (ns ms : List Int) (g : Nat) (L : List Int) (w : World), Nums w a la ca ns → Nums w b lb cb ms → TapeAt w g L → Calls Tryz.prog 6 #[.slice a la ca, .slice b lb cb, .pointer (some ⟨g, 0, none⟩)] w fun e w' => DrawT TapeAt w g ns ms L e w'
theorem grown_new6 {w w1 w2 : World} {g : Nat} (h : Below w.heap.size w w1) (hg : w.heap.size ≤ g) (k : w1.grownBy w2 (some g)) : Below w.heap.size w w2 :=
  h.grown k h.size (fun j hj => by cases hj; exact hg)

end Go.Proofs.YtnbdbahfekneoaaGreat

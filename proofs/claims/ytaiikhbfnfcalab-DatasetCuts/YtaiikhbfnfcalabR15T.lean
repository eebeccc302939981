/-
  The document's Take, its loops. Written by mk/r15take.py.
  The document's Take, the whole. Written by mk/r15take.py.
-/
import Derived.Test.YtaiikhbfnfcalabRef15P
import Derived.Test.YtaiikhbfnfcalabR15K
import Derived.Test.YtaiikhbfnfcalabR15G
import Derived.Test.YtaiikhbfnfcalabRef15S
namespace Go.Proofs.Ytaiikhbfnfcalab
open Go.RowKit

end Go.Proofs.Ytaiikhbfnfcalab

namespace Go.Proofs.Ytaiikhbfnfcalab
open Go.RowKit

/-- What Take makes: a table of its own. -/
def TakT15 (t : Tab) (xs : List Int) (w : World) (e : Ending) (w' : World) : Prop := ∃ (v : TV) (t' : Tab) (err : Int), e = .returned (.tuple #[.agg #[.slice v.p0 v.l0 v.c0, .slice v.p1 v.l1 v.c1, .slice v.p2 v.l2 v.c2], .int .i64 err]) ∧ TabF (fun b => w.heap.size ≤ b) w' v t' ∧ ResTab15 (TakeOk t xs) (t.take xs) err t' ∧ Below w.heap.size w w'
theorem TabF.none (F : Nat → Prop) (w : World) : TabF F w TV.none Tab.none := ⟨⟨Lsts.nil _, fun _ e => (by cases e)⟩, ⟨Lsts.nil _, fun _ e => (by cases e)⟩, IRows.nil _, fun _ e => (by cases e), fun _ _ _ _ _ e => (by cases e)⟩
theorem LHd.ent15 {Q : Nat → Prop} {w : World} {base l c : Nat} {p : Option Addr} {ns : List (List Int)} (h : LHd Q w base (.slice p l c) ns) : ∀ ad i p' n k, p = some ad → i < l → w.cell? ⟨ad.block, ad.off + i, none⟩ = some (.slice p' n k) → ∀ a, p' = some a → Q a.block := fun ad i p' n k ep hi hc a ea => by
  rcases h with ⟨e, -⟩ | ⟨b, cap, cur, e, -, hg, -, -, -, -, hE⟩
  · cases e
    cases ep
  · cases e
    cases ep
    obtain ⟨p2, n2, c2, e1, e2⟩ := hE i hi
    have hc' : w.cell? ⟨b, i, none⟩ = some (.slice p' n k) := by simpa using hc
    rw [cell_of_row _ _ _ _ _ _ hg, e1] at hc'
    cases hc'
    exact e2.2 a ea
end Go.Proofs.Ytaiikhbfnfcalab

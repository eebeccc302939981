/-
  The contract of few: no list of limbs is longer than 70.
-/
import Derived.Test.YtaipkganijofjabCmp
namespace Go.Proofs.Ytaipkganijofjab
open Go.RowKit

/-- None is above 70. -/
def fewB (ls : List Nat) : Bool := ls.all (fun n => decide (n ≤ 70))

theorem fewB_no {ls : List Nat} {k : Nat} (hk : k < ls.length) (h : 70 < ls.getD k 0) : fewB ls = false := by
  have e : ls.getD k 0 = ls[k] := by simp [List.getD, hk]
  rw [e] at h
  cases hf : fewB ls with
  | false => rfl
  | true =>
    have := List.all_eq_true.1 hf _ (List.getElem_mem hk)
    simp at this; omega
theorem fewB_yes {ls : List Nat} {k : Nat} (hk : ls.length ≤ k) (h : ∀ j, j < k → j < ls.length → ls.getD j 0 ≤ 70) : fewB ls = true := by
  refine List.all_eq_true.2 fun x hx => ?_
  obtain ⟨i, hi, rfl⟩ := List.getElem_of_mem hx
  have := h i (by omega) hi
  simpa [List.getD, hi] using this

end Go.Proofs.Ytaipkganijofjab

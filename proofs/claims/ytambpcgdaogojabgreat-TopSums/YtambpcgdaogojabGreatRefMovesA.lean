/-
  Contracts of the document's own Shl and Shr.
-/
import Derived.Test.YtambpcgdaogojabGreatRefMoves
namespace Go.Proofs.YtambpcgdaogojabGreat
open Go.RowKit

theorem shl_one {ls : List Int} {e : Int} (h : ResShl [1] 0 ls e) : ls.length = 1 := by
  have h2 : ResShl [1] 0 [1] 0 := by
    rw [ResShl, if_pos (by decide), if_neg (by decide), if_neg (by decide)]
    exact .inl ⟨rfl, by intro x hx; simp at hx; omega, by simp [Top], by simp, by simp [val]⟩
  rw [(h.unique h2).1]; rfl
end Go.Proofs.YtambpcgdaogojabGreat

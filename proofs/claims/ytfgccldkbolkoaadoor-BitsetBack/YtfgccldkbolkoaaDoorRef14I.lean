/-
  The document's sets: both. Written by mk/r14both.py.
-/
import Derived.Test.YtfgccldkbolkoaaDoorRef14H
namespace Go.Proofs.YtfgccldkbolkoaaDoor
open Go.RowKit

/-- What a call that puts two sets together makes. -/
def JoinT14 (op : Bool → Bool → Bool) (M : Int) (ws : List Int) (K : Int) (vs : List Int) (w : World) (e : Ending) (w' : World) : Prop := ∃ N a l c us err, e = .returned (.tuple #[.agg #[.int .i64 N, .slice a l c], .int .i64 err]) ∧ Nums w' a l c us ∧ ResJoin op M ws K vs N us err ∧ Below w.heap.size w w'
theorem inList_nums (n : Nat) (f : Nat → Bool) (i : Nat) : inList (ints (numsOfS n f)) i = (decide (i < n) && f i) := by
  unfold inList
  rw [Bool.eq_iff_iff]
  simp only [decide_eq_true_eq, Bool.and_eq_true]
  constructor
  · intro h
    obtain ⟨j, hj, e⟩ := List.mem_map.1 h
    have : j = i := by omega
    subst this
    exact (numsOfS_mem _ _ _).1 hj
  · intro h
    exact List.mem_map.2 ⟨i, (numsOfS_mem _ _ _).2 h, rfl⟩
theorem ResOf.join {op : Bool → Bool → Bool} {m : Nat} {ws vs : List Int} (h1 : RightS (m : Int) ws) (h2 : RightS (m : Int) vs) {N : Int} {us : List Int} {err : Int} (h : ResOf (m : Int) (ints (numsOfS m (fun i => op (wbit ws i) (wbit vs i)))) N us err) : ResJoin op m ws m vs N us err := by
  rcases h with ⟨h0, -, -, -⟩ | ⟨-, k1, k2, k3⟩
  · have := h1.hi
    rcases h0 with e | e | ⟨x, e1, e2⟩
    · omega
    · omega
    · obtain ⟨j, hj, rfl⟩ := List.mem_map.1 e1
      have := ((numsOfS_mem _ _ _).1 hj).1
      omega
  · refine .inr ⟨⟨h1, h2, rfl⟩, k1, k2.congr (fun i hi => ?_), k3⟩
    rw [inList_nums]
    have : i < m := hi
    simp [this]

end Go.Proofs.YtfgccldkbolkoaaDoor

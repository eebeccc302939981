/-
  The program's sets: Full.
-/
import Derived.Test.YtfgccldkbolkoaaDoorX14B
namespace Go.Proofs.YtfgccldkbolkoaaDoor
open Go.RowKit

/-- The words of a whole set, the first k of them. -/
structure Wholes (m k : Nat) (ws : List Int) : Prop where
  dig : Digs 18446744073709551616 ws
  at' : ∀ j, j < k → ws.getD j 0 = ((2 ^ inWord m j - 1 : Nat) : Int)
theorem Wholes.zero (m q : Nat) : Wholes m 0 (noughts q) := ⟨fun x hx => by unfold noughts at hx; rw [List.eq_of_mem_replicate hx]; omega, fun j hj => absurd hj (Nat.not_lt_zero _)⟩
theorem Wholes.more {m k : Nat} {ws : List Int} (h : Wholes m k ws) (hk : k < ws.length) : Wholes m (k + 1) (ws.set k ((2 ^ inWord m k - 1 : Nat) : Int)) := ⟨digs_set h.dig k (whole_lt (Nat.min_le_right _ _)), fun j hj => by
  rw [getD_set hk]
  by_cases c : j = k
  · rw [if_pos c, c]
  · rw [if_neg c]
    exact h.at' j (by omega)⟩
theorem Wholes.set {m : Nat} {ws : List Int} (h : Wholes m ws.length ws) (hl : ws.length = (m + 63) / 64) : IsSet m (fun _ => true) ws := IsSet.of_words hl h.dig (fun q hq j hj => by
  rw [h.at' q hq, Int.toNat_natCast, IsSet.whole_word _ _ _ hj]
  simp)
end Go.Proofs.YtfgccldkbolkoaaDoor

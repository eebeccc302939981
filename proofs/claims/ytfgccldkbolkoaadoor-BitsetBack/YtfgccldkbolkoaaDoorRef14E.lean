/-
  The document's sets: Of, its loop, the whole. Written by mk/r14of.py.
-/
import Derived.Test.YtfgccldkbolkoaaDoorRef14D
namespace Go.Proofs.YtfgccldkbolkoaaDoor
open Go.RowKit

theorem inList_snoc (l : List Int) (x i : Nat) : inList (l ++ [(x : Int)]) i = (inList l i || decide (i = x)) := by
  have e : decide ((i : Int) = (x : Int)) = decide (i = x) := by
    by_cases c : i = x
    · simp [c]
    · rw [decide_eq_false c, decide_eq_false (by omega)]
  unfold inList
  rw [← e]
  simp
theorem take_snoc14 {xs : List Int} {i : Nat} (hi : i < xs.length) : xs.take (i + 1) = xs.take i ++ [xs.getD i 0] := by
  rw [List.take_add_one]
  simp [List.getD, hi]
theorem blk_word {w : World} {g : Nat} {ws : List Int} (h : Blk w g ws) {q : Nat} (hq : q < ws.length) (hd : Digs 18446744073709551616 ws) : w.cell? ⟨g, q, none⟩ = some (.int .u64 (((ws.getD q 0).toNat : Nat) : Int)) := by
  rw [h.cell hq]
  have := hd ws[q] (List.getElem_mem hq)
  have e : ws.getD q 0 = ws[q] := by simp [List.getD, hq]
  congr 2
  rw [e]
  omega
theorem blk_thaw {w : World} {g : Nat} {ws : List Int} (h : Blk w g ws) (j : Nat) : w.frozen? ⟨g, j, none⟩ = false := by
  obtain ⟨cur, h, _⟩ := h
  exact frozen_of_row _ _ _ _ _ h
theorem IsSet.again {n : Nat} {l : List Int} {ws : List Int} (h : IsSet n (inList l) ws) {x : Nat} (hx : x < n) (ht : wbit ws x = true) : IsSet n (inList (l ++ [(x : Int)])) ws := h.congr (fun i hi => by
  rw [inList_snoc]
  by_cases e : i = x
  · subst e
    rw [← h.at hi, ht]
    rfl
  · simp [e])

end Go.Proofs.YtfgccldkbolkoaaDoor

/-
  The document's sets: contracts of bit, Right, Has, Same.
  The document's sets: contracts of Has, List, Count, Same.
  The document's sets: Of, its statements. Written by mk/r14of.py.
  The document's sets: Of. Written by mk/r14of.py.
  The document's sets: Of, its loop, the whole. Written by mk/r14of.py.
-/
import Derived.Test.YtchmlfjjgehbkaaB14A
import Derived.Test.YtchmlfjjgehbkaaW12B
import Derived.BigQuiet
import Derived.Test.YtchmlfjjgehbkaaPieces
import Derived.Test.YtchmlfjjgehbkaaNatB
namespace Go.Proofs.Ytchmlfjjgehbkaa
open Go.RowKit

/-- A set in memory. -/
abbrev bitsV (N : Int) (a : Option Addr) (l c : Nat) : Value := .agg #[.int .i64 N, .slice a l c]
theorem word_at {w : World} {a : Option Addr} {l c : Nat} {ws : List Int} (h : Nums w a l c ws) {q : Nat} (hq : q < l) : ∃ b off m, a = some ⟨b, off, none⟩ ∧ w.cell? ⟨b, off + q, none⟩ = some (.int .u64 ((m : Nat) : Int)) ∧ m = (ws.getD q 0).toNat ∧ m < 18446744073709551616 := by
  obtain ⟨b, off, e, hc⟩ := h.cells (by omega)
  have hx := h.word (ws[q]'(by rw [h.hlen]; exact hq)) (List.getElem_mem _)
  have e2 : ws.getD q 0 = ws[q]'(by rw [h.hlen]; exact hq) := by simp [List.getD, h.hlen, hq]
  refine ⟨b, off, (ws.getD q 0).toNat, e, ?_, rfl, by rw [e2]; omega⟩
  rw [hc q hq]
  congr 2
  rw [e2]
  omega
/-- Whether a set may be. -/
theorem RightS.not_len {N : Int} {ws : List Int} (h : ¬ ((ws.length : Int) = (N + 63) / 64)) : ¬ RightS N ws := fun e => h e.len
end Go.Proofs.Ytchmlfjjgehbkaa

namespace Go.Proofs.Ytchmlfjjgehbkaa
open Go.RowKit

/-- What a call that tells whether a number is in a set makes. -/
def HasT14 (N : Int) (ws : List Int) (i : Int) (w : World) (e : Ending) (w' : World) : Prop := ∃ b, e = .returned (.bool b) ∧ ResHas N ws i b ∧ Below w.heap.size w w'
end Go.Proofs.Ytchmlfjjgehbkaa

namespace Go.Proofs.Ytchmlfjjgehbkaa
open Go.RowKit

theorem Blk.lt14 {w : World} {g : Nat} {L : List Int} (h : Blk w g L) : g < w.heap.size := by
  obtain ⟨cur, h, _⟩ := h
  exact (Array.getElem?_eq_some_iff.1 h).1
theorem put2_below {w W : World} {R : Nat} (hb : Below w.heap.size w W) (hR : w.heap.size ≤ R) (x y : Value) : Below w.heap.size w ((W.setCell ⟨R, 0, none⟩ x).setCell ⟨R, 1, none⟩ y) := (hb.setCell (p := ⟨R, 0, none⟩) hR _).setCell (p := ⟨R, 1, none⟩) hR _
/-- What a call that makes a set makes. -/
def OfT14 (n : Int) (xs : List Int) (w : World) (e : Ending) (w' : World) : Prop := ∃ N a l c ws err, e = .returned (.tuple #[.agg #[.int .i64 N, .slice a l c], .int .i64 err]) ∧ Nums w' a l c ws ∧ ResOf n xs N ws err ∧ Below w.heap.size w w'

end Go.Proofs.Ytchmlfjjgehbkaa

namespace Go.Proofs.Ytchmlfjjgehbkaa
open Go.RowKit

end Go.Proofs.Ytchmlfjjgehbkaa

namespace Go.Proofs.Ytchmlfjjgehbkaa
open Go.RowKit

theorem inList_snoc (l : List Int) (x i : Nat) : inList (l ++ [(x : Int)]) i = (inList l i || decide (i = x)) := by
  have e : decide ((i : Int) = (x : Int)) = decide (i = x) := by
    by_cases c : i = x
    · simp [c]
    · rw [decide_eq_false c, decide_eq_false (by omega)]
  unfold inList
  rw [← e]
  simp
theorem take_snoc14 {xs : List Int} {i : Nat} (hi : i < xs.length) : xs.take (i + 1) = xs.take i ++ [xs.getD i 0] := by
  rw [List.take_add_one]
  simp [List.getD, hi]
theorem blk_word {w : World} {g : Nat} {ws : List Int} (h : Blk w g ws) {q : Nat} (hq : q < ws.length) (hd : Digs 18446744073709551616 ws) : w.cell? ⟨g, q, none⟩ = some (.int .u64 (((ws.getD q 0).toNat : Nat) : Int)) := by
  rw [h.cell hq]
  have := hd ws[q] (List.getElem_mem hq)
  have e : ws.getD q 0 = ws[q] := by simp [List.getD, hq]
  congr 2
  rw [e]
  omega
theorem blk_thaw {w : World} {g : Nat} {ws : List Int} (h : Blk w g ws) (j : Nat) : w.frozen? ⟨g, j, none⟩ = false := by
  obtain ⟨cur, h, _⟩ := h
  exact frozen_of_row _ _ _ _ _ h
theorem IsSet.again {n : Nat} {l : List Int} {ws : List Int} (h : IsSet n (inList l) ws) {x : Nat} (hx : x < n) (ht : wbit ws x = true) : IsSet n (inList (l ++ [(x : Int)])) ws := h.congr (fun i hi => by
  rw [inList_snoc]
  by_cases e : i = x
  · subst e
    rw [← h.at hi, ht]
    rfl
  · simp [e])

end Go.Proofs.Ytchmlfjjgehbkaa

/-
  The contract of the document's Take.
-/
import Derived.Test.YtambpcgdaogojabGreatTapeB
import Derived.Deep.RegionHeld3
namespace Go.Proofs.YtambpcgdaogojabGreat
open Go.RowKit

theorem Byts.part {w : World} {a : Option Addr} {b off l c u m : Nat} {L : List Int} (h : Byts w (some ⟨b, off, none⟩) l c L) (hm : u + m ≤ l) (ha : 0 < m → a = some ⟨b, off + u, none⟩) : Byts w a m (c - u) ((L.drop u).take m) := by
  have hl := h.hlen
  have hx := h.hmax
  have hc := h.hcap
  refine ⟨by simp; omega, by omega, by omega, fun hp => ?_, fun y hy => h.word y (List.mem_of_mem_drop (List.mem_of_mem_take hy))⟩
  obtain ⟨b2, o2, e, hcell⟩ := h.cells (by omega)
  cases e
  refine ⟨b, off + u, ha hp, fun i hi => ?_⟩
  have := hcell (u + i) (by omega)
  rw [show off + (u + i) = off + u + i by omega] at this
  rw [this]
  simp [List.getD, hi]

theorem Byts.drew {w : World} {a : Option Addr} {l c : Nat} {L : List Int} (h : Byts w a l c L) : Byts w.drew a l c L := ⟨h.hlen, h.hcap, h.hmax, h.cells, h.word⟩
theorem Byts.alloc {w : World} {a : Option Addr} {l c : Nat} {L : List Int} (h : Byts w a l c L) (o : Obj) : Byts (w.alloc o) a l c L := h.below ((Below.refl _ _).alloc (Nat.le_refl _) _)

theorem Byts.empty {w : World} {a : Option Addr} {c : Nat} (hc : c ≤ maxLen) : Byts w a 0 c [] := ⟨rfl, Nat.zero_le _, hc, fun h => absurd h (Nat.lt_irrefl _), fun x hx => by cases hx⟩

end Go.Proofs.YtambpcgdaogojabGreat

/-
  Bytes as a string.
-/
import Derived.Test.YtambpcgdaogojabGreatRefBytes
import Derived.Laws.BytesString
import Derived.BigRegion
namespace Go.Proofs.YtambpcgdaogojabGreat
open Go.RowKit

def strOf (bs : List Int) : ByteArray := bs.foldl (fun r n => r.push (UInt8.ofNat n.toNat)) ByteArray.empty

theorem conv_any {w : World} {a : Option Addr} {n c : Nat} {bs : List Int} (h : Byts w a n c bs) : (convert 26 9 (.slice a n c)).run Tryz.prog w = .ok (.string (strOf bs)) w := by
  rw [run_convert_bytes_string w _ _ _ a n c Tryz.underlying26 Tryz.underlying5 Tryz.underlying9]
  have hl := h.hlen
  cases a with
  | none =>
    have hn : n = 0 := by
      rcases Nat.eq_zero_or_pos n with h0 | h0
      · exact h0
      · obtain ⟨b, off, e, _⟩ := h.cells h0; cases e
    subst hn
    have e : bs = [] := List.eq_nil_of_length_eq_zero hl
    subst e
    simp [Conv.bytesToString, strOf]
  | some ad =>
    refine run_bytesToString w ad n c bs ?_
    have := run_loadCells_list (P := Tryz.prog) w ad (bs.map (Value.int .u8)) (fun j v hj => by
      have hj2 : j < n := by have := (List.getElem?_eq_some_iff.1 hj).1; simp at this; omega
      obtain ⟨b, off, e, hc⟩ := h.cells (by omega)
      cases e
      rw [Addr.add_lit, hc j hj2]
      have e2 : (bs.map (Value.int .u8))[j]? = some (.int .u8 (bs.getD j 0)) := by simp [List.getD, show j < bs.length by omega]
      rw [e2] at hj
      exact hj)
    simpa [hl] using this

theorem Byts.lit1 (w : World) (x : Int) (hx : 0 ≤ x ∧ x < 256) (t : TypeId) : Byts (w.alloc (.cells #[.int .u8 x] t)) (some ⟨w.heap.size, 0, none⟩) 1 1 [x] := by
  refine ⟨rfl, Nat.le_refl _, by decide, fun _ => ⟨_, _, rfl, fun i hi => ?_⟩, fun y hy => ?_⟩
  · obtain rfl : i = 0 := by omega
    simp
  · simp at hy; subst hy; exact hx

theorem read_one {ls : List Int} {e : Int} (h : Res (val 256 [1].reverse) ls e) : ls.length = 1 := by
  have h2 : Res (val 256 [1].reverse) [1] 0 := .inl ⟨rfl, by intro x hx; simp at hx; omega, .inr (by decide), by decide, by decide⟩
  rw [(h.unique h2).1]; rfl
end Go.Proofs.YtambpcgdaogojabGreat

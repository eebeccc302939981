/-
  Stage 14's laws: sets that are handed in.
-/
import Derived.Test.YtfgccldkbolkoaaDoorW12B
namespace Go.Proofs.YtfgccldkbolkoaaDoor
open Go.ChangeShapes Go.WideShapes Go.RowKit

set_option maxRecDepth 100000 in
/-- A set among the arguments. -/
theorem open_bits14 {H : Type} {enc : TypeId × Value → H} {W : World} {base : Nat} {v : Value} {d : DataW H} {ps : List MemPlace} (hv : Value.okWide Tryd.prog W .any base 24 v) (h : DataW.Trod enc Tryd.prog W 0 (fun _ => true) true 24 v d ps) : ∃ N a l c zs, v = .agg #[.int .i64 N, .slice a l c] ∧ (Lit.int .i64 N).wf = true ∧ IsRow .u64 W a l c zs := by
  obtain ⟨cs, rfl, hsz⟩ := okWide_struct Tryd.underlying24 hv
  obtain ⟨fuel, hf⟩ := h
  obtain ⟨xs, n, _, hxa, hcl, hx, hy⟩ := DataW.trod_struct Tryd.underlying24 hf
  have hce : Tryd.prog.cellsOf 24 = 2 := by kernel_rfl
  rw [hce] at hcl
  obtain ⟨l⟩ := cs
  obtain ⟨c0, c1, rfl⟩ : ∃ c0 c1, l = [c0, c1] := by
    have h2 : l.length = 2 := by simpa [Value.cells] using hcl
    match l, h2 with
    | [c0, c1], _ => exact ⟨c0, c1, rfl⟩
  have hx2 : xs.length = 2 := hx
  have e0 : Tryd.prog.cellsOf 3 = 1 := by kernel_rfl
  have e1 : Tryd.prog.cellsOf 22 = 1 := by kernel_rfl
  have q0 : DataW.trod enc Tryd.prog W 0 (fun _ => true) true n 3 (([c0, c1].drop 0).take (Tryd.prog.cellsOf 3)) = xs[0]? := hy 0 _ rfl
  have q1 : DataW.trod enc Tryd.prog W 0 (fun _ => true) true n 22 (([c0, c1].drop 1).take (Tryd.prog.cellsOf 22)) = xs[1]? := hy 1 _ rfl
  rw [e0] at q0
  rw [e1] at q1
  rw [List.getElem?_eq_getElem (by omega)] at q0 q1
  obtain ⟨k, r0, _, f0⟩ := DataW.trod_int Tryd.underlying3 q0
  simp at r0
  subst r0
  rcases open_ints Tryd.underlying22 Tryd.underlying30 (by kernel_rfl) q1 with ⟨hcs, _⟩ | ⟨x, m, c, zs, hcs, _, hl, hm, hz, _, hcell, hwz⟩
  · simp at hcs
    exact ⟨k, none, 0, 0, [], by rw [hcs], f0, .inl ⟨rfl, rfl, rfl, rfl⟩⟩
  · simp at hcs
    exact ⟨k, _, _, _, zs, by rw [hcs], f0, .inr ⟨_, rfl, hl, hm, by simpa using hz, hcell, hwz⟩⟩
end Go.Proofs.YtfgccldkbolkoaaDoor

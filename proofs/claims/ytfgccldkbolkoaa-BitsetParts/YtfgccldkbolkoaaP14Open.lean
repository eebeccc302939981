/-
  Stage 14's laws: sets that are handed in.
-/
import Derived.Test.YtfgccldkbolkoaaW12B
namespace Go.Proofs.Ytfgccldkbolkoaa
open Go.ChangeShapes Go.WideShapes Go.RowKit

set_option maxRecDepth 100000 in
/-- A set among the arguments. -/
theorem open_bits14 {H : Type} {enc : TypeId × Value → H} {W : World} {base : Nat} {v : Value} {d : DataW H} {ps : List MemPlace} (hv : Value.okWide Try.prog W .any base 25 v) (h : DataW.Trod enc Try.prog W 0 (fun _ => true) true 25 v d ps) : ∃ N a l c zs, v = .agg #[.int .i64 N, .slice a l c] ∧ (Lit.int .i64 N).wf = true ∧ IsRow .u64 W a l c zs := by
  obtain ⟨cs, rfl, hsz⟩ := okWide_struct Try.underlying25 hv
  obtain ⟨fuel, hf⟩ := h
  obtain ⟨xs, n, _, hxa, hcl, hx, hy⟩ := DataW.trod_struct Try.underlying25 hf
  have hce : Try.prog.cellsOf 25 = 2 := by kernel_rfl
  rw [hce] at hcl
  obtain ⟨l⟩ := cs
  obtain ⟨c0, c1, rfl⟩ : ∃ c0 c1, l = [c0, c1] := by
    have h2 : l.length = 2 := by simpa [Value.cells] using hcl
    match l, h2 with
    | [c0, c1], _ => exact ⟨c0, c1, rfl⟩
  have hx2 : xs.length = 2 := hx
  have e0 : Try.prog.cellsOf 3 = 1 := by kernel_rfl
  have e1 : Try.prog.cellsOf 23 = 1 := by kernel_rfl
  have q0 : DataW.trod enc Try.prog W 0 (fun _ => true) true n 3 (([c0, c1].drop 0).take (Try.prog.cellsOf 3)) = xs[0]? := hy 0 _ rfl
  have q1 : DataW.trod enc Try.prog W 0 (fun _ => true) true n 23 (([c0, c1].drop 1).take (Try.prog.cellsOf 23)) = xs[1]? := hy 1 _ rfl
  rw [e0] at q0
  rw [e1] at q1
  rw [List.getElem?_eq_getElem (by omega)] at q0 q1
  obtain ⟨k, r0, _, f0⟩ := DataW.trod_int Try.underlying3 q0
  simp at r0
  subst r0
  rcases open_ints Try.underlying23 Try.underlying34 (by kernel_rfl) q1 with ⟨hcs, _⟩ | ⟨x, m, c, zs, hcs, _, hl, hm, hz, _, hcell, hwz⟩
  · simp at hcs
    exact ⟨k, none, 0, 0, [], by rw [hcs], f0, .inl ⟨rfl, rfl, rfl, rfl⟩⟩
  · simp at hcs
    exact ⟨k, _, _, _, zs, by rw [hcs], f0, .inr ⟨_, rfl, hl, hm, by simpa using hz, hcell, hwz⟩⟩
end Go.Proofs.Ytfgccldkbolkoaa

/-
  A sum that is handed in. Written by mk/p16.py.
-/
import Derived.Test.YtchmlfjjgehbkaaGreatW12B
namespace Go.Proofs.YtchmlfjjgehbkaaGreat
open Go.ChangeShapes Go.WideShapes Go.RowKit

set_option maxRecDepth 100000 in
theorem open_sum16 {H : Type} {enc : TypeId × Value → H} {W : World} {base : Nat} {v : Value} {d : DataW H} {ps : List MemPlace} (hv : Value.okWide Tryz.prog W .any base 23 v) (h : DataW.Trod enc Tryz.prog W 0 (fun _ => true) true 23 v d ps) : ∃ G H : Int, v = .agg #[.int .i64 G, .int .i64 H] ∧ (Lit.int .i64 G).wf = true ∧ (Lit.int .i64 H).wf = true := by
  obtain ⟨cs, rfl, hsz⟩ := okWide_struct Tryz.underlying23 hv
  obtain ⟨fuel, hf⟩ := h
  obtain ⟨xs, n, _, hxa, hcl, hx, hy⟩ := DataW.trod_struct Tryz.underlying23 hf
  have hce : Tryz.prog.cellsOf 23 = 2 := by kernel_rfl
  rw [hce] at hcl
  obtain ⟨l⟩ := cs
  obtain ⟨c0, c1, rfl⟩ : ∃ c0 c1, l = [c0, c1] := by
    have h2 : l.length = 2 := by simpa [Value.cells] using hcl
    match l, h2 with
    | [c0, c1], _ => exact ⟨c0, c1, rfl⟩
  have hx2 : xs.length = 2 := hx
  have e0 : Tryz.prog.cellsOf 3 = 1 := by kernel_rfl
  have q0 : DataW.trod enc Tryz.prog W 0 (fun _ => true) true n 3 (([c0, c1].drop 0).take (Tryz.prog.cellsOf 3)) = xs[0]? := hy 0 _ rfl
  rw [e0, List.getElem?_eq_getElem (by omega)] at q0
  have q1 : DataW.trod enc Tryz.prog W 0 (fun _ => true) true n 3 (([c0, c1].drop 1).take (Tryz.prog.cellsOf 3)) = xs[1]? := hy 1 _ rfl
  rw [e0, List.getElem?_eq_getElem (by omega)] at q1
  obtain ⟨k0, r0, _, f0⟩ := DataW.trod_int Tryz.underlying3 q0
  simp at r0
  obtain ⟨k1, r1, _, f1⟩ := DataW.trod_int Tryz.underlying3 q1
  simp at r1
  subst r0
  subst r1
  exact ⟨k0, k1, rfl, f0, f1⟩
end Go.Proofs.YtchmlfjjgehbkaaGreat

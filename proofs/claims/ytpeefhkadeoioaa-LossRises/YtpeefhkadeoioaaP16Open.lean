/-
  Stage 16's laws: configurations and sums that are handed in. Written by mk/p16.py.
-/
import Derived.Test.YtpeefhkadeoioaaP16O
import Derived.Test.YtpeefhkadeoioaaSumOpen
namespace Go.Proofs.Ytpeefhkadeoioaa
open Go.ChangeShapes Go.WideShapes Go.RowKit

set_option maxRecDepth 100000 in
theorem open_cfg16 {H : Type} {enc : TypeId × Value → H} {W : World} {base : Nat} {v : Value} {d : DataW H} {ps : List MemPlace} (hv : Value.okWide Try.prog W .any base 23 v) (h : DataW.Trod enc Try.prog W 0 (fun _ => true) true 23 v d ps) : ∃ c : Cfg, v = .agg #[.int .i64 c.T, .int .i64 c.D, .int .i64 c.L, .int .i64 c.G, .int .i64 c.N, .int .i64 c.E, .int .i64 c.S, .int .i64 c.C] ∧ CfgW c := by
  obtain ⟨cs, rfl, hsz⟩ := okWide_struct Try.underlying23 hv
  obtain ⟨fuel, hf⟩ := h
  obtain ⟨xs, n, _, hxa, hcl, hx, hy⟩ := DataW.trod_struct Try.underlying23 hf
  have hce : Try.prog.cellsOf 23 = 8 := by kernel_rfl
  rw [hce] at hcl
  obtain ⟨l⟩ := cs
  obtain ⟨c0, c1, c2, c3, c4, c5, c6, c7, rfl⟩ : ∃ c0 c1 c2 c3 c4 c5 c6 c7, l = [c0, c1, c2, c3, c4, c5, c6, c7] := by
    have h2 : l.length = 8 := by simpa [Value.cells] using hcl
    match l, h2 with
    | [c0, c1, c2, c3, c4, c5, c6, c7], _ => exact ⟨c0, c1, c2, c3, c4, c5, c6, c7, rfl⟩
  have hx2 : xs.length = 8 := hx
  have e0 : Try.prog.cellsOf 3 = 1 := by kernel_rfl
  have q0 : DataW.trod enc Try.prog W 0 (fun _ => true) true n 3 (([c0, c1, c2, c3, c4, c5, c6, c7].drop 0).take (Try.prog.cellsOf 3)) = xs[0]? := hy 0 _ rfl
  rw [e0, List.getElem?_eq_getElem (by omega)] at q0
  have q1 : DataW.trod enc Try.prog W 0 (fun _ => true) true n 3 (([c0, c1, c2, c3, c4, c5, c6, c7].drop 1).take (Try.prog.cellsOf 3)) = xs[1]? := hy 1 _ rfl
  rw [e0, List.getElem?_eq_getElem (by omega)] at q1
  have q2 : DataW.trod enc Try.prog W 0 (fun _ => true) true n 3 (([c0, c1, c2, c3, c4, c5, c6, c7].drop 2).take (Try.prog.cellsOf 3)) = xs[2]? := hy 2 _ rfl
  rw [e0, List.getElem?_eq_getElem (by omega)] at q2
  have q3 : DataW.trod enc Try.prog W 0 (fun _ => true) true n 3 (([c0, c1, c2, c3, c4, c5, c6, c7].drop 3).take (Try.prog.cellsOf 3)) = xs[3]? := hy 3 _ rfl
  rw [e0, List.getElem?_eq_getElem (by omega)] at q3
  have q4 : DataW.trod enc Try.prog W 0 (fun _ => true) true n 3 (([c0, c1, c2, c3, c4, c5, c6, c7].drop 4).take (Try.prog.cellsOf 3)) = xs[4]? := hy 4 _ rfl
  rw [e0, List.getElem?_eq_getElem (by omega)] at q4
  have q5 : DataW.trod enc Try.prog W 0 (fun _ => true) true n 3 (([c0, c1, c2, c3, c4, c5, c6, c7].drop 5).take (Try.prog.cellsOf 3)) = xs[5]? := hy 5 _ rfl
  rw [e0, List.getElem?_eq_getElem (by omega)] at q5
  have q6 : DataW.trod enc Try.prog W 0 (fun _ => true) true n 3 (([c0, c1, c2, c3, c4, c5, c6, c7].drop 6).take (Try.prog.cellsOf 3)) = xs[6]? := hy 6 _ rfl
  rw [e0, List.getElem?_eq_getElem (by omega)] at q6
  have q7 : DataW.trod enc Try.prog W 0 (fun _ => true) true n 3 (([c0, c1, c2, c3, c4, c5, c6, c7].drop 7).take (Try.prog.cellsOf 3)) = xs[7]? := hy 7 _ rfl
  rw [e0, List.getElem?_eq_getElem (by omega)] at q7
  obtain ⟨k0, r0, _, f0⟩ := DataW.trod_int Try.underlying3 q0
  simp at r0
  obtain ⟨k1, r1, _, f1⟩ := DataW.trod_int Try.underlying3 q1
  simp at r1
  obtain ⟨k2, r2, _, f2⟩ := DataW.trod_int Try.underlying3 q2
  simp at r2
  obtain ⟨k3, r3, _, f3⟩ := DataW.trod_int Try.underlying3 q3
  simp at r3
  obtain ⟨k4, r4, _, f4⟩ := DataW.trod_int Try.underlying3 q4
  simp at r4
  obtain ⟨k5, r5, _, f5⟩ := DataW.trod_int Try.underlying3 q5
  simp at r5
  obtain ⟨k6, r6, _, f6⟩ := DataW.trod_int Try.underlying3 q6
  simp at r6
  obtain ⟨k7, r7, _, f7⟩ := DataW.trod_int Try.underlying3 q7
  simp at r7
  subst r0
  subst r1
  subst r2
  subst r3
  subst r4
  subst r5
  subst r6
  subst r7
  exact ⟨⟨k0, k1, k2, k3, k4, k5, k6, k7⟩, rfl, int_of_wf12 f0, int_of_wf12 f1, int_of_wf12 f2, int_of_wf12 f3, int_of_wf12 f4, int_of_wf12 f5, int_of_wf12 f6, int_of_wf12 f7⟩
end Go.Proofs.Ytpeefhkadeoioaa

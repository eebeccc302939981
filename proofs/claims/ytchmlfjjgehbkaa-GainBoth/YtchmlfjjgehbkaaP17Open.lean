/-
  Stage 17's laws: rows of sums that are handed in.
-/
import Derived.Test.YtchmlfjjgehbkaaSumOpen
import Derived.Test.YtchmlfjjgehbkaaD17Rows
namespace Go.Proofs.Ytchmlfjjgehbkaa
open Go.ChangeShapes Go.WideShapes Go.RowKit

/-- Lists of things, one by one. -/
theorem each17 {α : Type} {P : Nat → α → Prop} {d : α} {len : Nat} (hone : ∀ i, i < len → ∃ z, P i z) : ∃ ns : List α, ns.length = len ∧ ∀ i, i < len → P i (ns.getD i d) := by
  have hns : ∀ k, k ≤ len → ∃ ns : List α, ns.length = k ∧ ∀ i, i < k → P i (ns.getD i d) := by
    intro k
    induction k with
    | zero => exact fun _ => ⟨[], rfl, fun i hi => absurd hi (by omega)⟩
    | succ k ih =>
      intro hk
      obtain ⟨ns, h1, h2⟩ := ih (by omega)
      obtain ⟨z, h3⟩ := hone k (by omega)
      refine ⟨ns ++ [z], by simp [h1], fun i hi => ?_⟩
      by_cases q : i < k
      · rw [show (ns ++ [z]).getD i d = ns.getD i d by unfold List.getD; rw [List.getElem?_append_left (by omega)]]
        exact h2 i q
      · obtain rfl : i = k := by omega
        rw [show (ns ++ [z]).getD i d = z by unfold List.getD; rw [List.getElem?_append_right (by omega), h1]; simp]
        exact h3
  exact hns len (Nat.le_refl _)
section
variable {H : Type} {enc : TypeId × Value → H} {W : World} {m : Nat} {c : Value} {x : DataW H × List MemPlace}
set_option maxRecDepth 100000 in
/-- The cells of a sum. -/
theorem open_sumc17 {cs : List Value} (h : DataW.trod enc Try.prog W 0 (fun _ => true) true m 23 cs = some x) : ∃ G H : Int, cs = [.int .i64 G, .int .i64 H] ∧ (-9223372036854775808 ≤ G ∧ G < 9223372036854775808) ∧ (-9223372036854775808 ≤ H ∧ H < 9223372036854775808) := by
  obtain ⟨xs, n, _, hxa, hcl, hx, hy⟩ := DataW.trod_struct Try.underlying23 h
  have hce : Try.prog.cellsOf 23 = 2 := by kernel_rfl
  rw [hce] at hcl
  obtain ⟨c0, c1, rfl⟩ : ∃ c0 c1, cs = [c0, c1] := by
    match cs, hcl with
    | [c0, c1], _ => exact ⟨c0, c1, rfl⟩
  have hx2 : xs.length = 2 := hx
  have e0 : Try.prog.cellsOf 3 = 1 := by kernel_rfl
  have q0 : DataW.trod enc Try.prog W 0 (fun _ => true) true n 3 (([c0, c1].drop 0).take (Try.prog.cellsOf 3)) = xs[0]? := hy 0 _ rfl
  rw [e0, List.getElem?_eq_getElem (by omega)] at q0
  have q1 : DataW.trod enc Try.prog W 0 (fun _ => true) true n 3 (([c0, c1].drop 1).take (Try.prog.cellsOf 3)) = xs[1]? := hy 1 _ rfl
  rw [e0, List.getElem?_eq_getElem (by omega)] at q1
  obtain ⟨k0, r0, _, f0⟩ := DataW.trod_int Try.underlying3 q0
  simp at r0
  obtain ⟨k1, r1, _, f1⟩ := DataW.trod_int Try.underlying3 q1
  simp at r1
  subst r0
  subst r1
  exact ⟨k0, k1, rfl, int_of_wf12 f0, int_of_wf12 f1⟩
set_option maxRecDepth 100000 in
/-- A row of sums among the arguments. -/
theorem open_rows17 (hf : DataW.trod enc Try.prog W 0 (fun _ => true) true m 39 [c] = some x) : ∃ a len cap ss, c = .slice a len cap ∧ SRows W a len cap ss := by
  rcases DataW.trod_slice Try.underlying39 hf with ⟨hcs, _⟩ | ⟨a, len, cap, elems, rest, n, _, hcs, hxe, _, hl, hm, hlen, hel, _⟩
  · simp at hcs
    exact ⟨none, 0, 0, [], hcs, SRows.nil _⟩
  · simp at hcs
    have hce : Try.prog.cellsOf 23 = 2 := by kernel_rfl
    have one : ∀ i, i < len → ∃ s : Int × Int, (∀ j, j < 2 → W.cell? ((a.add (i * 2)).add j) = [Value.int .i64 s.1, .int .i64 s.2][j]?) ∧ (-9223372036854775808 ≤ s.1 ∧ s.1 < 9223372036854775808) ∧ (-9223372036854775808 ≤ s.2 ∧ s.2 < 9223372036854775808) := fun i hi => by
      have h := hel i hi
      rw [hce, List.getElem?_eq_getElem (by omega)] at h
      simp only [Option.bind_eq_some_iff] at h
      obtain ⟨cs, h1, h2⟩ := h
      obtain ⟨_, h3, h4⟩ := World.cells?_some h1
      obtain ⟨G, H, rfl, y1, y2⟩ := open_sumc17 h2
      exact ⟨(G, H), fun j hj => by simpa using h4 j hj, y1, y2⟩
    obtain ⟨ss, k1, k2⟩ := each17 (d := ((0 : Int), (0 : Int))) one
    have hw : ∀ s, s ∈ ss → (-9223372036854775808 ≤ s.1 ∧ s.1 < 9223372036854775808) ∧ (-9223372036854775808 ≤ s.2 ∧ s.2 < 9223372036854775808) := fun s hs => by
      obtain ⟨i, hi, rfl⟩ := List.getElem_of_mem hs
      have := (k2 i (by omega)).2
      simpa [List.getD, hi] using this
    refine ⟨some a, len, cap, ss, hcs, ⟨k1, hl, hm, fun hp => ?_, hw⟩⟩
    obtain ⟨ab, ao, spot⟩ := a
    have hspot : spot = none := by
      obtain ⟨h0, -⟩ := k2 0 hp
      have z := h0 0 (by decide)
      simpa [Addr.add] using World.cell?_spot z
    subst hspot
    refine ⟨ab, ao, rfl, fun i hi => ?_⟩
    obtain ⟨h1, -⟩ := k2 i hi
    have g0 := h1 0 (by decide)
    have g1 := h1 1 (by decide)
    simp only [Addr.add_lit] at g0 g1
    exact ⟨by simpa using g0, by simpa using g1⟩
end
end Go.Proofs.Ytchmlfjjgehbkaa

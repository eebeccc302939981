/-
  Stage 15's laws: rows of rows and tables that are handed in.
-/
import Derived.Test.YtaiikhbfnfcalaaR15A
import Derived.Test.YtaiikhbfnfcalaaW12B
namespace Go.Proofs.Ytaiikhbfnfcalaa
open Go.ChangeShapes Go.WideShapes Go.RowKit

/-- Lists of things, one by one. -/
theorem each15 {α : Type} {P : Nat → α → Prop} {d : α} {len : Nat} (hone : ∀ i, i < len → ∃ z, P i z) : ∃ ns : List α, ns.length = len ∧ ∀ i, i < len → P i (ns.getD i d) := by
  have hns : ∀ k, k ≤ len → ∃ ns : List α, ns.length = k ∧ ∀ i, i < k → P i (ns.getD i d) := by
    intro k
    induction k with
    | zero => exact fun _ => ⟨[], rfl, fun i hi => absurd hi (by omega)⟩
    | succ k ih =>
      intro hk
      obtain ⟨ns, h1, h2⟩ := ih (by omega)
      obtain ⟨z, h3⟩ := hone k (by omega)
      refine ⟨ns ++ [z], by simp [h1], fun i hi => ?_⟩
      by_cases q : i < k
      · rw [show (ns ++ [z]).getD i d = ns.getD i d by unfold List.getD; rw [List.getElem?_append_left (by omega)]]
        exact h2 i q
      · obtain rfl : i = k := by omega
        rw [show (ns ++ [z]).getD i d = z by unfold List.getD; rw [List.getElem?_append_right (by omega), h1]; simp]
        exact h3
  exact hns len (Nat.le_refl _)
section
variable {H : Type} {enc : TypeId × Value → H} {W : World} {m : Nat} {c : Value} {x : DataW H × List MemPlace}
theorem open_ints15 (hf : DataW.trod enc Try.prog W 0 (fun _ => true) true m 22 [c] = some x) : ∃ a len cap zs, c = .slice a len cap ∧ Lsts W a len cap zs := by
  rcases open_ints Try.underlying22 Try.underlying3 (by kernel_rfl) hf with ⟨hcs, _⟩ | ⟨x, l, c, zs, hcs, _, hl, hm, hz, _, hcell, hwz⟩
  · simp at hcs
    exact ⟨none, 0, 0, [], hcs, Lsts.nil _⟩
  · simp at hcs
    exact ⟨_, _, _, _, hcs, Lsts.of_row (.inr ⟨_, rfl, hl, hm, by simpa using hz, hcell, hwz⟩)⟩
set_option maxRecDepth 100000 in
theorem open_rows15 (hf : DataW.trod enc Try.prog W 0 (fun _ => true) true m 23 [c] = some x) : ∃ a len cap Ls, c = .slice a len cap ∧ IRows W a len cap Ls := by
  rcases DataW.trod_slice Try.underlying23 hf with ⟨hcs, _⟩ | ⟨a, len, cap, elems, rest, n, _, hcs, _, _, hl, hm, hlen, hel, _⟩
  · simp at hcs
    exact ⟨none, 0, 0, [], hcs, IRows.nil _⟩
  · simp at hcs
    have hce : Try.prog.cellsOf 22 = 1 := by kernel_rfl
    have hone : ∀ i, i < len → ∃ zs, ∃ p l c, W.cell? (a.add i) = some (.slice p l c) ∧ Lsts W p l c zs := fun i hi => by
      have h := hel i hi
      rw [hce, List.getElem?_eq_getElem (by omega), Nat.mul_one] at h
      simp only [Option.bind_eq_some_iff] at h
      obtain ⟨cs, h1, h2⟩ := h
      obtain ⟨_, h3, h4⟩ := World.cells?_some h1
      obtain ⟨c0, rfl⟩ : ∃ c0, cs = [c0] := by
        match cs, h3 with
        | [c0], _ => exact ⟨c0, rfl⟩
      obtain ⟨p, l, c, zs, rfl, hz⟩ := open_ints15 h2
      have h5 := h4 0 (by decide)
      refine ⟨zs, p, l, c, ?_, hz⟩
      have e : (a.add i).add 0 = a.add i := by unfold Addr.add; split <;> simp_all
      rw [e] at h5
      simpa using h5
    obtain ⟨ns, h1, h2⟩ := each15 (d := []) hone
    refine ⟨some a, len, cap, ns, hcs, ⟨h1, hl, hm, fun hp => ?_⟩⟩
    obtain ⟨b, off, spot⟩ := a
    have hspot : spot = none := by
      obtain ⟨p, l, c, h5, _⟩ := h2 0 hp
      simpa [Addr.add] using World.cell?_spot h5
    subst hspot
    refine ⟨b, off, rfl, fun i hi => ?_⟩
    obtain ⟨p, l, c, h5, h6⟩ := h2 i hi
    rw [Addr.add_lit] at h5
    exact ⟨p, l, c, h5, h6⟩
set_option maxRecDepth 100000 in
/-- The cells of a table. -/
theorem open_tabc15 {cs : List Value} (h : DataW.trod enc Try.prog W 0 (fun _ => true) true m 25 cs = some x) : ∃ (v : TV) (t : Tab), cs = [.slice v.p0 v.l0 v.c0, .slice v.p1 v.l1 v.c1, .slice v.p2 v.l2 v.c2] ∧ TabAt W v t := by
  obtain ⟨xs, n, _, hxa, hcl, hx, hy⟩ := DataW.trod_struct Try.underlying25 h
  have hce : Try.prog.cellsOf 25 = 3 := by kernel_rfl
  rw [hce] at hcl
  obtain ⟨c0, c1, c2, rfl⟩ : ∃ c0 c1 c2, cs = [c0, c1, c2] := by
    match cs, hcl with
    | [c0, c1, c2], _ => exact ⟨c0, c1, c2, rfl⟩
  have hx3 : xs.length = 3 := hx
  have e1 : Try.prog.cellsOf 22 = 1 := by kernel_rfl
  have e2 : Try.prog.cellsOf 23 = 1 := by kernel_rfl
  have q0 : DataW.trod enc Try.prog W 0 (fun _ => true) true n 22 (([c0, c1, c2].drop 0).take (Try.prog.cellsOf 22)) = xs[0]? := hy 0 _ rfl
  have q1 : DataW.trod enc Try.prog W 0 (fun _ => true) true n 22 (([c0, c1, c2].drop 1).take (Try.prog.cellsOf 22)) = xs[1]? := hy 1 _ rfl
  have q2 : DataW.trod enc Try.prog W 0 (fun _ => true) true n 23 (([c0, c1, c2].drop 2).take (Try.prog.cellsOf 23)) = xs[2]? := hy 2 _ rfl
  rw [e1] at q0 q1
  rw [e2] at q2
  rw [List.getElem?_eq_getElem (by omega)] at q0 q1 q2
  obtain ⟨p0, l0, k0, z0, r0, h0⟩ := open_ints15 (c := c0) (by simpa using q0)
  obtain ⟨p1, l1, k1, z1, r1, h1⟩ := open_ints15 (c := c1) (by simpa using q1)
  obtain ⟨p2, l2, k2, z2, r2, h2⟩ := open_rows15 (c := c2) (by simpa using q2)
  subst r0
  subst r1
  subst r2
  exact ⟨⟨p0, l0, k0, p1, l1, k1, p2, l2, k2⟩, ⟨z0, z1, z2⟩, rfl, ⟨h0, h1, h2⟩⟩
set_option maxRecDepth 100000 in
/-- A table among the arguments. -/
theorem open_tab15 {base : Nat} {v : Value} {d : DataW H} {ps : List MemPlace} (hv : Value.okWide Try.prog W .any base 25 v) (h : DataW.Trod enc Try.prog W 0 (fun _ => true) true 25 v d ps) : ∃ (u : TV) (t : Tab), v = .agg #[.slice u.p0 u.l0 u.c0, .slice u.p1 u.l1 u.c1, .slice u.p2 u.l2 u.c2] ∧ TabAt W u t := by
  obtain ⟨cs, rfl, hsz⟩ := okWide_struct Try.underlying25 hv
  obtain ⟨fuel, hf⟩ := h
  obtain ⟨u, t, e, hm⟩ := open_tabc15 hf
  refine ⟨u, t, ?_, hm⟩
  obtain ⟨l⟩ := cs
  simp [Value.cells] at e
  rw [e]
set_option maxRecDepth 100000 in
/-- Tables among the arguments. -/
theorem open_tabs15 (hf : DataW.trod enc Try.prog W 0 (fun _ => true) true m 37 [c] = some x) : ∃ a len cap ts, c = .slice a len cap ∧ TRows W a len cap ts ∧ (len = 0 ∨ ∃ es sp, x.1 = .slice es sp ∧ es.length = len) := by
  rcases DataW.trod_slice Try.underlying37 hf with ⟨hcs, _⟩ | ⟨a, len, cap, elems, rest, n, _, hcs, hxe, _, hl, hm, hlen, hel, _⟩
  · simp at hcs
    exact ⟨none, 0, 0, [], hcs, ⟨rfl, Nat.le_refl _, Nat.zero_le _, fun h => absurd h (Nat.lt_irrefl _)⟩, .inl rfl⟩
  · simp at hcs
    have hce : Try.prog.cellsOf 25 = 3 := by kernel_rfl
    have one : ∀ i, i < len → ∃ t, ∃ u : TV, (∀ j, j < 3 → W.cell? ((a.add (i * 3)).add j) = [Value.slice u.p0 u.l0 u.c0, .slice u.p1 u.l1 u.c1, .slice u.p2 u.l2 u.c2][j]?) ∧ TabAt W u t := fun i hi => by
      have h := hel i hi
      rw [hce, List.getElem?_eq_getElem (by omega)] at h
      simp only [Option.bind_eq_some_iff] at h
      obtain ⟨cs, h1, h2⟩ := h
      obtain ⟨_, h3, h4⟩ := World.cells?_some h1
      obtain ⟨u, t, rfl, hy⟩ := open_tabc15 h2
      exact ⟨t, u, fun j hj => by simpa using h4 j hj, hy⟩
    obtain ⟨ts, k1, k2⟩ := each15 (d := Tab.none) one
    refine ⟨some a, len, cap, ts, hcs, ⟨k1, hl, hm, fun hp => ?_⟩, .inr ⟨_, _, by rw [hxe], by rw [List.length_map, hlen]⟩⟩
    obtain ⟨ab, ao, spot⟩ := a
    have hspot : spot = none := by
      obtain ⟨u, h0, -⟩ := k2 0 hp
      have z := h0 0 (by decide)
      simpa [Addr.add] using World.cell?_spot z
    subst hspot
    refine ⟨ab, ao, rfl, fun i hi => ?_⟩
    obtain ⟨u, h1, hy⟩ := k2 i hi
    have g0 := h1 0 (by decide)
    have g1 := h1 1 (by decide)
    have g2 := h1 2 (by decide)
    simp only [Addr.add_lit] at g0 g1 g2
    exact ⟨u, ⟨by simpa using g0, by simpa using g1, by simpa using g2⟩, hy⟩
end
end Go.Proofs.Ytaiikhbfnfcalaa

/-
  Stage 13's laws: acts that are handed in.
-/
import Derived.Test.YtbfjcfebbadkcaaW12B
namespace Go.Proofs.Ytbfjcfebbadkcaa
open Go.ChangeShapes Go.WideShapes Go.RowKit

/-- An act, and where its kinds lie. -/
structure AD where
  d : Int
  p : Int
  n : Int
  a : Int
  ka : Option Addr
  kl : Nat
  kc : Nat
  ks : List Int
structure AD.In (x : AD) (w : World) : Prop where
  dB : -9223372036854775808 ≤ x.d ∧ x.d < 9223372036854775808
  pB : -9223372036854775808 ≤ x.p ∧ x.p < 9223372036854775808
  nB : -9223372036854775808 ≤ x.n ∧ x.n < 9223372036854775808
  aB : -9223372036854775808 ≤ x.a ∧ x.a < 9223372036854775808
  kinds : Lsts w x.ka x.kl x.kc x.ks
  nil : x.ka = none → x.kc = 0
  few : x.kl ≤ 17592186044416
/-- The cells of the act number i of a row. -/
def ActCells (w : World) (a : Option Addr) (i : Nat) (x : AD) : Prop := ∃ b off, a = some ⟨b, off, none⟩ ∧ (w.cell? ⟨b, off + i * 5, none⟩ = some (.int .i64 x.d) ∧ w.cell? ⟨b, off + i * 5 + 1, none⟩ = some (.int .i64 x.p) ∧ w.cell? ⟨b, off + i * 5 + 2, none⟩ = some (.int .i64 x.n) ∧ w.cell? ⟨b, off + i * 5 + 3, none⟩ = some (.int .i64 x.a) ∧ w.cell? ⟨b, off + i * 5 + 4, none⟩ = some (.slice x.ka x.kl x.kc))
/-- Acts that were handed in. -/
def ActsIn (w : World) (a : Option Addr) (len : Nat) : Prop := ∀ i, i < len → ∃ x : AD, ActCells w a i x ∧ x.In w
theorem ActCells.below {w w' : World} {a : Option Addr} {i : Nat} {x : AD} (h : ActCells w a i x) (hb : Below w.heap.size w w') : ActCells w' a i x := by
  obtain ⟨b, off, e, c0, c1, c2, c3, c4⟩ := h
  exact ⟨b, off, e, bkeep hb c0 rfl, bkeep hb c1 rfl, bkeep hb c2 rfl, bkeep hb c3 rfl, bkeep hb c4 rfl⟩
section
variable {H : Type} {enc : TypeId × Value → H} {W : World} {m : Nat} {c : Value} {x : DataW H × List MemPlace}
theorem weights_all13 {P : Program} {e : TypeId} {d : DataW H} {n : Nat} (hn : n ∈ d.weights P e) : ∀ {l : List (DataW H)}, d ∈ l → n ∈ DataW.weightsAll P e l
  | [], h => by cases h
  | x :: l, h => by
    unfold DataW.weightsAll
    rcases List.mem_cons.1 h with rfl | h
    · exact List.mem_append.2 (.inl hn)
    · exact List.mem_append.2 (.inr (weights_all13 hn h))
set_option maxRecDepth 100000 in
theorem open_actc {cs : List Value} (h : DataW.trod enc Try.prog W 0 (fun _ => true) true m 34 cs = some x) (hw : ∀ n, n ∈ x.1.weights Try.prog 34 → n ≤ reachBytes) : ∃ y : AD, cs = [.int .i64 y.d, .int .i64 y.p, .int .i64 y.n, .int .i64 y.a, .slice y.ka y.kl y.kc] ∧ y.In W := by
  obtain ⟨xs, n, _, hxa, hcl, hx, hy⟩ := DataW.trod_struct Try.underlying34 h
  have hce : Try.prog.cellsOf 34 = 5 := by kernel_rfl
  rw [hce] at hcl
  obtain ⟨c0, c1, c2, c3, c4, rfl⟩ : ∃ c0 c1 c2 c3 c4, cs = [c0, c1, c2, c3, c4] := by
    match cs, hcl with
    | [c0, c1, c2, c3, c4], _ => exact ⟨c0, c1, c2, c3, c4, rfl⟩
  have hx5 : xs.length = 5 := hx
  have e0 : Try.prog.cellsOf 3 = 1 := by kernel_rfl
  have e1 : Try.prog.cellsOf 32 = 1 := by kernel_rfl
  have q0 : DataW.trod enc Try.prog W 0 (fun _ => true) true n 3 (([c0, c1, c2, c3, c4].drop 0).take (Try.prog.cellsOf 3)) = xs[0]? := hy 0 _ rfl
  have q1 : DataW.trod enc Try.prog W 0 (fun _ => true) true n 3 (([c0, c1, c2, c3, c4].drop 1).take (Try.prog.cellsOf 3)) = xs[1]? := hy 1 _ rfl
  have q2 : DataW.trod enc Try.prog W 0 (fun _ => true) true n 3 (([c0, c1, c2, c3, c4].drop 2).take (Try.prog.cellsOf 3)) = xs[2]? := hy 2 _ rfl
  have q3 : DataW.trod enc Try.prog W 0 (fun _ => true) true n 3 (([c0, c1, c2, c3, c4].drop 3).take (Try.prog.cellsOf 3)) = xs[3]? := hy 3 _ rfl
  have q4 : DataW.trod enc Try.prog W 0 (fun _ => true) true n 32 (([c0, c1, c2, c3, c4].drop 4).take (Try.prog.cellsOf 32)) = xs[4]? := hy 4 _ rfl
  rw [e0] at q0 q1 q2 q3
  rw [e1] at q4
  rw [List.getElem?_eq_getElem (by omega)] at q0 q1 q2 q3 q4
  obtain ⟨k, r0, _, f0⟩ := DataW.trod_int Try.underlying3 q0
  obtain ⟨a, r1, _, f1⟩ := DataW.trod_int Try.underlying3 q1
  obtain ⟨b, r2, _, f2⟩ := DataW.trod_int Try.underlying3 q2
  obtain ⟨c, r3, _, f3⟩ := DataW.trod_int Try.underlying3 q3
  simp at r0 r1 r2 r3
  subst r0
  subst r1
  subst r2
  subst r3
  have hw4 : ∀ n, n ∈ (xs[4].1).weights Try.prog 32 → n ≤ reachBytes := fun n hn => hw n (by
    rw [hxa]
    unfold DataW.weights
    rw [Try.underlying34]
    exact DataW.weights_mem_each (j := 4) rfl (by simp [hx5]) _ hn)
  obtain ⟨pi, li, ci, zi, r4, hz4, b4⟩ := open_ints12 (c := c4) (by simpa using q4) hw4
  subst r4
  have hL := Lsts.of_row hz4
  exact ⟨⟨k, a, b, c, pi, li, ci, _⟩, rfl, ⟨int_of_wf12 f0, int_of_wf12 f1, int_of_wf12 f2, int_of_wf12 f3, hL, row_nil12 hz4, Nat.le_trans hL.hcap b4⟩⟩
set_option maxRecDepth 100000 in
/-- Acts among the arguments. -/
theorem open_acts13 (hf : DataW.trod enc Try.prog W 0 (fun _ => true) true m 23 [c] = some x) (hw : ∀ n, n ∈ x.1.weights Try.prog 23 → n ≤ reachBytes) : ∃ a len cap, c = .slice a len cap ∧ ActsIn W a len ∧ len ≤ cap ∧ cap ≤ maxLen := by
  rcases DataW.trod_slice Try.underlying23 hf with ⟨hcs, _⟩ | ⟨a, len, cap, elems, rest, n, _, hcs, hxe, _, hl, hm, hlen, hel, _⟩
  · simp at hcs
    exact ⟨none, 0, 0, hcs, fun i hi => absurd hi (by omega), Nat.le_refl _, Nat.zero_le _⟩
  · simp at hcs
    have hce : Try.prog.cellsOf 34 = 5 := by kernel_rfl
    have one : ∀ i, i < len → ∃ y : AD, (∀ j, j < 5 → W.cell? ((a.add (i * 5)).add j) = [Value.int .i64 y.d, .int .i64 y.p, .int .i64 y.n, .int .i64 y.a, .slice y.ka y.kl y.kc][j]?) ∧ y.In W := fun i hi => by
      have h := hel i hi
      rw [hce, List.getElem?_eq_getElem (by omega)] at h
      simp only [Option.bind_eq_some_iff] at h
      obtain ⟨cs, h1, h2⟩ := h
      obtain ⟨_, h3, h4⟩ := World.cells?_some h1
      obtain ⟨y, rfl, hy⟩ := open_actc h2 (fun n hn => hw n (by
        rw [hxe]
        unfold DataW.weights
        rw [Try.underlying23]
        exact List.mem_cons.2 (.inr (List.mem_append.2 (.inl (weights_all13 hn (List.mem_map.2 ⟨elems[i], List.getElem_mem _, rfl⟩)))))))
      exact ⟨y, fun j hj => by simpa using h4 j hj, hy⟩
    refine ⟨some a, len, cap, hcs, fun i hi => ?_, hl, hm⟩
    obtain ⟨y0, h0, -⟩ := one 0 (by omega)
    obtain ⟨y, h1, hy⟩ := one i hi
    obtain ⟨ab, ao, spot⟩ := a
    have hspot : spot = none := by
      have z := h0 0 (by decide)
      simpa [Addr.add] using World.cell?_spot z
    subst hspot
    have g0 := h1 0 (by decide)
    have g1 := h1 1 (by decide)
    have g2 := h1 2 (by decide)
    have g3 := h1 3 (by decide)
    have g4 := h1 4 (by decide)
    simp only [Addr.add_lit] at g0 g1 g2 g3 g4
    exact ⟨y, ⟨ab, ao, rfl, by simpa using g0, by simpa using g1, by simpa using g2, by simpa using g3, by simpa using g4⟩, hy⟩
end
end Go.Proofs.Ytbfjcfebbadkcaa

/-
  Messages that are handed in: how they lie in memory.
-/
import Derived.Test.YtnbdbahfekneoaaW12Dec
import Derived.Lib.SmallJoins
import Derived.SizedLaws
import Derived.ChangeSlices
import Derived.WideShapes
namespace Go.Proofs.Ytnbdbahfekneoaa
open Go.ChangeShapes Go.WideShapes Go.RowKit

theorem int_of_wf12 {x : Int} (h : (Lit.int .i64 x).wf = true) : -9223372036854775808 ≤ x ∧ x < 9223372036854775808 := by
  simp [Lit.wf, IntKind.min, IntKind.max, IntKind.signed, IntKind.bits] at h
  exact ⟨by omega, by omega⟩
theorem Lsts.of_row {w : World} {a : Option Addr} {len cap : Nat} {zs : List Int} (h : IsRow .i64 w a len cap zs) : Lsts w a len cap (zs.take len) := by
  rcases h with ⟨rfl, rfl, rfl, rfl⟩ | ⟨x, rfl, hl, hm, hz, hcell, hwf⟩
  · exact ⟨rfl, Nat.le_refl _, Nat.zero_le _, fun h => absurd h (Nat.lt_irrefl _), fun x hx => by simp at hx⟩
  · refine ⟨by simp; omega, hl, hm, fun hp => ?_, fun y hy => int_of_wf12 (hwf y (List.mem_of_mem_take hy))⟩
    obtain ⟨b, off, spot⟩ := x
    have hc := hcell 0 (by omega)
    have hspot : spot = none := by simpa [Addr.add] using World.cell?_spot hc
    subst hspot
    refine ⟨b, off, rfl, fun i hi => ?_⟩
    have hi' := hcell i (by omega)
    rw [show (zs.take len).getD i 0 = zs.getD i 0 by simp [List.getD, hi]]
    rw [Addr.add_lit] at hi'
    exact hi'
/-- A message that was handed in lies in memory. -/
structure MsgIn (w : World) (k a b c : Int) (pi : Option Addr) (li ci : Nat) (pr : Option Addr) (lr cr : Nat) (pn : Option Addr) (ln cn : Nat) (ids rows : List Int) (nats : List (List Int)) : Prop where
  ids : Lsts w pi li ci ids
  rows : Lsts w pr lr cr rows
  nats : NRow w pn ln cn nats
  nums : (-9223372036854775808 ≤ k ∧ k < 9223372036854775808) ∧ (-9223372036854775808 ≤ a ∧ a < 9223372036854775808) ∧ (-9223372036854775808 ≤ b ∧ b < 9223372036854775808) ∧ -9223372036854775808 ≤ c ∧ c < 9223372036854775808
  few : ci ≤ 17592186044416 ∧ cr ≤ 17592186044416 ∧ cn ≤ 17592186044416
  nil : (pi = none → ci = 0) ∧ (pr = none → cr = 0) ∧ (pn = none → cn = 0)
theorem MsgIn.below {w w' : World} {k a b c : Int} {pi pr pn : Option Addr} {li ci lr cr ln cn : Nat} {ids rows : List Int} {nats : List (List Int)} (h : MsgIn w k a b c pi li ci pr lr cr pn ln cn ids rows nats) (hb : Below w.heap.size w w') : MsgIn w' k a b c pi li ci pr lr cr pn ln cn ids rows nats := ⟨h.ids.below hb, h.rows.below hb, h.nats.below hb, h.nums, h.few, h.nil⟩
theorem row_nil12 {k : IntKind} {w : World} {a : Option Addr} {len cap : Nat} {zs : List Int} (h : IsRow k w a len cap zs) : a = none → cap = 0 := by
  rcases h with ⟨_, _, h, _⟩ | ⟨x, rfl, _⟩
  · exact fun _ => h
  · exact fun e => by cases e
section
variable {H : Type} {enc : TypeId × Value → H} {W : World} {m : Nat} {c : Value} {x : DataW H × List MemPlace}
theorem open_ints12 (hf : DataW.trod enc Try.prog W 0 (fun _ => true) true m 22 [c] = some x) (hw : ∀ n, n ∈ x.1.weights Try.prog 22 → n ≤ reachBytes) : ∃ a len cap zs, c = .slice a len cap ∧ IsRow .i64 W a len cap zs ∧ cap ≤ 17592186044416 := by
  rcases open_ints Try.underlying22 Try.underlying3 (by kernel_rfl) hf with ⟨hcs, _⟩ | ⟨y, l, c, zs, hcs, _, hl, hm, hz, hx, hcell, hwz⟩
  · simp at hcs
    exact ⟨none, 0, 0, [], hcs, .inl ⟨rfl, rfl, rfl, rfl⟩, Nat.zero_le _⟩
  · simp at hcs
    have hz' : zs.length = c := by simpa using hz
    refine ⟨_, _, _, zs, hcs, .inr ⟨_, rfl, hl, hm, hz', hcell, hwz⟩, ?_⟩
    have := hw (c * Try.prog.bytesOf 3) (by
      rw [hx]
      unfold DataW.weights
      rw [Try.underlying22]
      refine List.mem_cons.2 (.inl ?_)
      congr 1
      simp [lits]
      omega)
    rw [show Try.prog.bytesOf 3 = 8 by kernel_rfl] at this
    unfold reachBytes at this
    omega
theorem open_nat12 (hf : DataW.trod enc Try.prog W 0 (fun _ => true) true m 47 [c] = some x) : ∃ a len cap zs, c = .slice a len cap ∧ IsRow .u64 W a len cap zs := by
  rcases open_ints Try.underlying47 Try.underlying54 (by kernel_rfl) hf with ⟨hcs, _⟩ | ⟨x, l, c, zs, hcs, _, hl, hm, hz, _, hcell, hwz⟩
  · simp at hcs
    exact ⟨none, 0, 0, [], hcs, .inl ⟨rfl, rfl, rfl, rfl⟩⟩
  · simp at hcs
    exact ⟨_, _, _, zs, hcs, .inr ⟨_, rfl, hl, hm, by simpa using hz, hcell, hwz⟩⟩
set_option maxRecDepth 100000 in
theorem open_nats12 (hf : DataW.trod enc Try.prog W 0 (fun _ => true) true m 23 [c] = some x) (hw : ∀ n, n ∈ x.1.weights Try.prog 23 → n ≤ reachBytes) : ∃ a len cap ns, c = .slice a len cap ∧ NRow W a len cap ns ∧ (a = none → cap = 0) ∧ cap ≤ 17592186044416 := by
  rcases DataW.trod_slice Try.underlying23 hf with ⟨hcs, _⟩ | ⟨a, len, cap, elems, rest, n, _, hcs, hxe, _, hl, hm, hlen, hel, hsp, _⟩
  · simp at hcs
    exact ⟨none, 0, 0, [], hcs, NRow.nil _, fun _ => rfl, Nat.zero_le _⟩
  · simp at hcs
    have hce : Try.prog.cellsOf 47 = 1 := by kernel_rfl
    have hone : ∀ i, i < len → ∃ p l c zs, W.cell? (a.add i) = some (.slice p l c) ∧ Nums W p l c zs := fun i hi => by
      have h := hel i hi
      rw [hce, List.getElem?_eq_getElem (by omega), Nat.mul_one] at h
      simp only [Option.bind_eq_some_iff] at h
      obtain ⟨cs, h1, h2⟩ := h
      obtain ⟨_, h3, h4⟩ := World.cells?_some h1
      obtain ⟨c0, rfl⟩ : ∃ c0, cs = [c0] := by
        match cs, h3 with
        | [c0], _ => exact ⟨c0, rfl⟩
      obtain ⟨p, l, c, zs, rfl, hz⟩ := open_nat12 h2
      have h5 := h4 0 (by decide)
      refine ⟨p, l, c, _, ?_, Nums.of_row hz⟩
      have e : (a.add i).add 0 = a.add i := by unfold Addr.add; split <;> simp_all
      rw [e] at h5
      simpa using h5
    have hns : ∀ k, k ≤ len → ∃ ns : List (List Int), ns.length = k ∧ ∀ i, i < k → ∃ p l c, W.cell? (a.add i) = some (.slice p l c) ∧ Nums W p l c (ns.getD i []) := by
      intro k
      induction k with
      | zero => exact fun _ => ⟨[], rfl, fun i hi => absurd hi (by omega)⟩
      | succ k ih =>
        intro hk
        obtain ⟨ns, h1, h2⟩ := ih (by omega)
        obtain ⟨p, l, c, zs, h3, h4⟩ := hone k (by omega)
        refine ⟨ns ++ [zs], by simp [h1], fun i hi => ?_⟩
        by_cases q : i < k
        · obtain ⟨p', l', c', h5, h6⟩ := h2 i q
          refine ⟨p', l', c', h5, ?_⟩
          rw [show (ns ++ [zs]).getD i [] = ns.getD i [] by unfold List.getD; rw [List.getElem?_append_left (by omega)]]
          exact h6
        · obtain rfl : i = k := by omega
          refine ⟨p, l, c, h3, ?_⟩
          rw [show (ns ++ [zs]).getD i [] = zs by unfold List.getD; rw [List.getElem?_append_right (by omega), h1]; simp]
          exact h4
    obtain ⟨ns, h1, h2⟩ := hns len (Nat.le_refl _)
    refine ⟨some a, len, cap, ns, hcs, ⟨h1, hl, hm, fun hp => ?_⟩, (fun e => by cases e), ?_⟩
    · obtain ⟨b, off, spot⟩ := a
      have hspot : spot = none := by
        obtain ⟨p, l, c, h5, _⟩ := h2 0 hp
        simpa [Addr.add] using World.cell?_spot h5
      subst hspot
      refine ⟨b, off, rfl, fun i hi => ?_⟩
      obtain ⟨p, l, c, h5, h6⟩ := h2 i hi
      rw [Addr.add_lit] at h5
      exact ⟨p, l, c, h5, h6⟩
    · have hr : rest.length = cap - len := (hsp rfl).1
      have := hw (cap * Try.prog.bytesOf 47) (by
        rw [hxe]
        unfold DataW.weights
        rw [Try.underlying23]
        refine List.mem_cons.2 (.inl ?_)
        congr 1
        simp
        omega)
      rw [show Try.prog.bytesOf 47 = 24 by kernel_rfl] at this
      unfold reachBytes at this
      omega
set_option maxRecDepth 100000 in
/-- The cells of a message. -/
theorem open_msgc {cs : List Value} (h : DataW.trod enc Try.prog W 0 (fun _ => true) true m 25 cs = some x) (hw : ∀ n, n ∈ x.1.weights Try.prog 25 → n ≤ reachBytes) : ∃ k a b c pi li ci pr lr cr pn ln cn ids rows nats, cs = [.int .i64 k, .int .i64 a, .int .i64 b, .int .i64 c, .slice pi li ci, .slice pr lr cr, .slice pn ln cn] ∧ MsgIn W k a b c pi li ci pr lr cr pn ln cn ids rows nats := by
  obtain ⟨xs, n, _, hxa, hcl, hx, hy⟩ := DataW.trod_struct Try.underlying25 h
  have hce : Try.prog.cellsOf 25 = 7 := by kernel_rfl
  rw [hce] at hcl
  obtain ⟨c0, c1, c2, c3, c4, c5, c6, rfl⟩ : ∃ c0 c1 c2 c3 c4 c5 c6, cs = [c0, c1, c2, c3, c4, c5, c6] := by
    match cs, hcl with
    | [c0, c1, c2, c3, c4, c5, c6], _ => exact ⟨c0, c1, c2, c3, c4, c5, c6, rfl⟩
  have hx7 : xs.length = 7 := hx
  have e0 : Try.prog.cellsOf 3 = 1 := by kernel_rfl
  have e1 : Try.prog.cellsOf 22 = 1 := by kernel_rfl
  have e2 : Try.prog.cellsOf 23 = 1 := by kernel_rfl
  have q0 : DataW.trod enc Try.prog W 0 (fun _ => true) true n 3 (([c0, c1, c2, c3, c4, c5, c6].drop 0).take (Try.prog.cellsOf 3)) = xs[0]? := hy 0 _ rfl
  have q1 : DataW.trod enc Try.prog W 0 (fun _ => true) true n 3 (([c0, c1, c2, c3, c4, c5, c6].drop 1).take (Try.prog.cellsOf 3)) = xs[1]? := hy 1 _ rfl
  have q2 : DataW.trod enc Try.prog W 0 (fun _ => true) true n 3 (([c0, c1, c2, c3, c4, c5, c6].drop 2).take (Try.prog.cellsOf 3)) = xs[2]? := hy 2 _ rfl
  have q3 : DataW.trod enc Try.prog W 0 (fun _ => true) true n 3 (([c0, c1, c2, c3, c4, c5, c6].drop 3).take (Try.prog.cellsOf 3)) = xs[3]? := hy 3 _ rfl
  have q4 : DataW.trod enc Try.prog W 0 (fun _ => true) true n 22 (([c0, c1, c2, c3, c4, c5, c6].drop 4).take (Try.prog.cellsOf 22)) = xs[4]? := hy 4 _ rfl
  have q5 : DataW.trod enc Try.prog W 0 (fun _ => true) true n 22 (([c0, c1, c2, c3, c4, c5, c6].drop 5).take (Try.prog.cellsOf 22)) = xs[5]? := hy 5 _ rfl
  have q6 : DataW.trod enc Try.prog W 0 (fun _ => true) true n 23 (([c0, c1, c2, c3, c4, c5, c6].drop 6).take (Try.prog.cellsOf 23)) = xs[6]? := hy 6 _ rfl
  rw [e0] at q0 q1 q2 q3
  rw [e1] at q4 q5
  rw [e2] at q6
  rw [List.getElem?_eq_getElem (by omega)] at q0 q1 q2 q3 q4 q5 q6
  obtain ⟨k, r0, _, f0⟩ := DataW.trod_int Try.underlying3 q0
  obtain ⟨a, r1, _, f1⟩ := DataW.trod_int Try.underlying3 q1
  obtain ⟨b, r2, _, f2⟩ := DataW.trod_int Try.underlying3 q2
  obtain ⟨c, r3, _, f3⟩ := DataW.trod_int Try.underlying3 q3
  simp at r0 r1 r2 r3
  subst r0
  subst r1
  subst r2
  subst r3
  have hw4 : ∀ n, n ∈ (xs[4].1).weights Try.prog 22 → n ≤ reachBytes := fun n hn => hw n (by
    rw [hxa]
    unfold DataW.weights
    rw [Try.underlying25]
    exact DataW.weights_mem_each (j := 4) rfl (by simp [hx7]) _ hn)
  have hw5 : ∀ n, n ∈ (xs[5].1).weights Try.prog 22 → n ≤ reachBytes := fun n hn => hw n (by
    rw [hxa]
    unfold DataW.weights
    rw [Try.underlying25]
    exact DataW.weights_mem_each (j := 5) rfl (by simp [hx7]) _ hn)
  have hw6 : ∀ n, n ∈ (xs[6].1).weights Try.prog 23 → n ≤ reachBytes := fun n hn => hw n (by
    rw [hxa]
    unfold DataW.weights
    rw [Try.underlying25]
    exact DataW.weights_mem_each (j := 6) rfl (by simp [hx7]) _ hn)
  obtain ⟨pi, li, ci, zi, r4, hz4, b4⟩ := open_ints12 (c := c4) (by simpa using q4) hw4
  obtain ⟨pr, lr, cr, zr, r5, hz5, b5⟩ := open_ints12 (c := c5) (by simpa using q5) hw5
  obtain ⟨pn, ln, cn, ns, r6, hz6, hn6, b6⟩ := open_nats12 (c := c6) (by simpa using q6) hw6
  subst r4
  subst r5
  subst r6
  exact ⟨k, a, b, c, pi, li, ci, pr, lr, cr, pn, ln, cn, _, _, ns, rfl, ⟨Lsts.of_row hz4, Lsts.of_row hz5, hz6, ⟨int_of_wf12 f0, int_of_wf12 f1, int_of_wf12 f2, int_of_wf12 f3⟩, ⟨b4, b5, b6⟩, ⟨row_nil12 hz4, row_nil12 hz5, hn6⟩⟩⟩
set_option maxRecDepth 100000 in
/-- A message among the arguments. -/
theorem open_msg {base : Nat} {v : Value} {d : DataW H} {ps : List MemPlace} (hv : Value.okWide Try.prog W .any base 25 v) (h : DataW.Trod enc Try.prog W 0 (fun _ => true) true 25 v d ps) (hw : ∀ n, n ∈ d.weights Try.prog 25 → n ≤ reachBytes) : ∃ k a b c pi li ci pr lr cr pn ln cn ids rows nats, v = .agg #[.int .i64 k, .int .i64 a, .int .i64 b, .int .i64 c, .slice pi li ci, .slice pr lr cr, .slice pn ln cn] ∧ MsgIn W k a b c pi li ci pr lr cr pn ln cn ids rows nats := by
  obtain ⟨cs, rfl, hsz⟩ := okWide_struct Try.underlying25 hv
  obtain ⟨fuel, hf⟩ := h
  obtain ⟨k, a, b, c, pi, li, ci, pr, lr, cr, pn, ln, cn, ids, rows, nats, e, hm⟩ := open_msgc hf hw
  refine ⟨k, a, b, c, pi, li, ci, pr, lr, cr, pn, ln, cn, ids, rows, nats, ?_, hm⟩
  obtain ⟨l⟩ := cs
  simp [Value.cells] at e
  rw [e]
end
end Go.Proofs.Ytnbdbahfekneoaa

/-
  The document's Join, its first statements. Written by mk/r15join.py.
  The document's Join. Written by mk/r15join.py.
  The document's Join: a column more. Written by mk/r15join.py.
  The document's Join, the whole. Written by mk/r15join.py.
  The document's Take, its first statements. Written by mk/r15take.py.
  The document's Take, more statements. Written by mk/r15take.py.
-/
import Derived.Test.YtaiikhbfnfcalabR15A
import Derived.Deep.RegionLaw
import Derived.Maps.AppendAt
import Derived.BigQuiet
namespace Go.Proofs.Ytaiikhbfnfcalab
open Go.RowKit

theorem TRows.at {w : World} {a : Option Addr} {l c : Nat} {ts : List Tab} (h : TRows w a l c ts) {i : Nat} (hi : i < l) : ∃ b off, ∃ v : TV, a = some ⟨b, off, none⟩ ∧ (w.cell? ⟨b, off + i * 3, none⟩ = some (.slice v.p0 v.l0 v.c0) ∧ w.cell? ⟨b, off + i * 3 + 1, none⟩ = some (.slice v.p1 v.l1 v.c1) ∧ w.cell? ⟨b, off + i * 3 + 2, none⟩ = some (.slice v.p2 v.l2 v.c2)) ∧ TabAt w v (ts.getD i Tab.none) := by
  obtain ⟨b, off, e, hc⟩ := h.cells (by omega)
  obtain ⟨v, h1, h2⟩ := hc i hi
  exact ⟨b, off, v, e, h1, h2⟩
theorem put3_var {W : World} {g : Nat} {v : TV} (u : TV) (h : TVar W g v) : TVar (((W.setCell ⟨g, 0, none⟩ (.slice u.p0 u.l0 u.c0)).setCell ⟨g, 1, none⟩ (.slice u.p1 u.l1 u.c1)).setCell ⟨g, 2, none⟩ (.slice u.p2 u.l2 u.c2)) g u := by
  have k1 := heap_setCell_same W g 0 _ _ (.slice u.p0 u.l0 u.c0) h
  have k2 := heap_setCell_same _ g 1 _ _ (.slice u.p1 u.l1 u.c1) k1
  have k3 := heap_setCell_same _ g 2 _ _ (.slice u.p2 u.l2 u.c2) k2
  exact k3
theorem set_only {W : World} {g j : Nat} {x : Value} : Only (fun b => b = g) W (W.setCell ⟨g, j, none⟩ x) := Only.of_grown (grown_set W g j x) (fun b e => by cases e; rfl)
theorem put3_only {W : World} {g : Nat} (x y z : Value) : Only (fun b => b = g) W (((W.setCell ⟨g, 0, none⟩ (x)).setCell ⟨g, 1, none⟩ (y)).setCell ⟨g, 2, none⟩ (z)) := Only.trans (Only.trans set_only set_only (fun _ e => .inl e)) set_only (fun _ e => .inl e)
theorem Only.below15 {W W' : World} {g B : Nat} (h : Only (fun b => b = g) W W') (hg : B ≤ g) (hs : B ≤ W.heap.size) : Below B W W' := h.below (fun b e => by rw [e]; exact hg) hs

end Go.Proofs.Ytaiikhbfnfcalab

namespace Go.Proofs.Ytaiikhbfnfcalab
open Go.RowKit

/-- A whole list is appended; where the row lies then. -/
theorem run_appIsAt (w : World) (ty : TypeId) {base : Nat} {v : Value} {xs : List Int} (h : IOwn w base v xs) {a : Option Addr} {l c : Nat} {ys : List Int} (hL : Lsts w a l c ys) (hn : xs.length + l < 1000000) (hbase : base ≤ w.heap.size) :
    ∃ v' w', (Builtin.append_ #[22, 22] ty #[v, .slice a l c]).run Try.prog w = .ok v' w' ∧ IOwn w' base v' (xs ++ ys) ∧ w.grownBy w' v.ownBlock ∧ (v'.ownBlock = v.ownBlock ∨ v'.ownBlock = some w.heap.size) := by
  obtain ⟨i0, hi, hz0, hz1, hz2⟩ := info_parts Try.infoI
  have hlen := hL.hlen
  cases a with
  | none =>
    have e : l = 0 := by
      rcases Nat.eq_zero_or_pos l with e | e
      · exact e
      · obtain ⟨b, off, q, _⟩ := hL.cells e
        cases q
    subst e
    have ey : ys = [] := List.eq_nil_of_length_eq_zero hlen
    subst ey
    have hrun := run_append_nil (P := Try.prog) (w := w) base 22 ty 3 i0 1 Try.underlying22 hi _ _ _ h c
    exact ⟨v, w, hrun, by rw [List.append_nil]; exact h, ⟨rfl, rfl, rfl, Nat.le_refl _, fun _ _ _ => rfl⟩, .inl rfl⟩
  | some ad =>
    obtain ⟨v', w', hr, h2, h3, _, h5⟩ := run_append_own_at (P := Try.prog) w base 22 ty 3 i0 (.int .i64 0) 1 8 Try.underlying22 hi hz0 hz1 hz2 rfl (by decide) v xs.length (xs.map (Value.int .i64)) h ad l c (ys.map (Value.int .i64)) (by simp [hlen]) (fun j u hj => by
      have hjl : j < l := by have := (List.getElem?_eq_some_iff.1 hj).1; simp at this; omega
      obtain ⟨b, off, q, hc⟩ := hL.cells (by omega)
      cases q
      rw [Addr.add_lit, hc j hjl, ← hj, List.getElem?_map, List.getElem?_eq_getElem (by omega)]
      simp [List.getD, List.getElem?_eq_getElem (show j < ys.length by omega)]) (fun u hu => by obtain ⟨z, -, rfl⟩ := List.mem_map.1 hu; rfl) (by unfold maxLen; omega) (by omega) hbase
    refine ⟨v', w', hr, ?_, h3, h5⟩
    unfold IOwn
    rw [List.length_append, List.map_append, hlen]
    exact h2
theorem step_appIsAt (w : World) {ops : Array Oper} {o : Oper} {a : Act} {K : Act → World → Prop} {Q : Exit → Act → World → Prop} {E : Prop} (hgd : o.guard = none) (s x : Operand)
    (ho : o.op = .call { callee := .builtin .append, args := #[s, x], argTypes := #[22, 22] })
    (base : Nat) (v : Value) (xs : List Int) (hs : a.eval s = v) (hown : IOwn w base v xs) (p : Option Addr) (l c : Nat) (ys : List Int) (hx : a.eval x = .slice p l c) (hL : Lsts w p l c ys) (hn : xs.length + l < 1000000) (hbase : base ≤ w.heap.size)
    (h : ∀ v' w', IOwn w' base v' (xs ++ ys) → w.grownBy w' v.ownBlock → (v'.ownBlock = v.ownBlock ∨ v'.ownBlock = some w.heap.size) → K (a.put o.dst v') w') : if Region.wanted o (yielded ops a.tmps) = true then Oper.wp Try.prog o a w K Q else E := by
  rw [if_pos (by simp [Region.wanted, hgd])]
  obtain ⟨v', w', hr, h2, h3, h4⟩ := run_appIsAt w o.type hown hL hn hbase
  unfold Oper.wp
  simp [execOp, ho, resolve, invoke, builtin, hs, hx, hr, Result.andThen]
  exact h v' w' h2 h3 h4
theorem own_int {W : World} {base q : Nat} {v : Value} {xs : List Int} (h : IOwn W base v xs) (e : v.ownBlock = some q) : ∃ cur, W.heap[q]? = some (.cells cur 3 (0, 0)) := by
  rcases h.2 with ⟨rfl, _⟩ | ⟨g, cap, cur, rfl, _, hg, _⟩
  · simp [Value.ownBlock] at e
  · simp [Value.ownBlock] at e
    subst e
    exact ⟨cur, hg⟩
theorem own_rows {Q : Nat → Prop} {W : World} {base q : Nat} {v : Value} {ns : List (List Int)} (h : LHd Q W base v ns) (e : v.ownBlock = some q) : ∃ cur, W.heap[q]? = some (.cells cur 22 (0, 0)) := by
  rcases h with ⟨rfl, _⟩ | ⟨b, cap, cur, rfl, _, hg, _⟩
  · simp [Value.ownBlock] at e
  · simp [Value.ownBlock] at e
    subst e
    exact ⟨cur, hg⟩
theorem int_rows {Q : Nat → Prop} {W : World} {b1 b2 q : Nat} {v u : Value} {xs : List Int} {ns : List (List Int)} (h : IOwn W b1 v xs) (k : LHd Q W b2 u ns) (e : v.ownBlock = some q) : u.ownBlock ≠ some q := fun e2 => by
  obtain ⟨c1, h1⟩ := own_int h e
  obtain ⟨c2, h2⟩ := own_rows k e2
  rw [h1] at h2
  cases h2
theorem int_var {W : World} {b1 g : Nat} {v : Value} {u : TV} {xs : List Int} (h : IOwn W b1 v xs) (k : TVar W g u) : v.ownBlock ≠ some g := fun e => by
  obtain ⟨c1, h1⟩ := own_int h e
  unfold TVar at k
  rw [h1] at k
  cases k
theorem rows_var {Q : Nat → Prop} {W : World} {b1 g : Nat} {v : Value} {u : TV} {ns : List (List Int)} (h : LHd Q W b1 v ns) (k : TVar W g u) : v.ownBlock ≠ some g := fun e => by
  obtain ⟨c1, h1⟩ := own_rows h e
  unfold TVar at k
  rw [h1] at k
  cases k
/-- Join, under way: the table that is made. -/
structure JoAt (X : World) (R s : Nat) (q0 : Option Addr) (l0 j0 : Nat) (u : TV) (bs : List Int) (cs : List (List Int)) (W : World) : Prop where
  r : TVar W R TV.none
  var : TVar W s u
  u0 : u.p0 = q0 ∧ u.l0 = l0 ∧ u.c0 = j0
  bins : IOwn W X.heap.size (.slice u.p1 u.l1 u.c1) bs
  cols : LHd (fun b => some b ≠ (Value.slice u.p1 u.l1 u.c1).ownBlock ∧ b ≠ s ∧ b < W.heap.size) W X.heap.size (.slice u.p2 u.l2 u.c2) cs
  only : Only (fun b => b = s) X W
  low : s < X.heap.size ∧ R ≠ s
theorem JoAt.grow {X : World} {R s : Nat} {q0 : Option Addr} {l0 j0 : Nat} {u : TV} {bs : List Int} {cs : List (List Int)} {W W' : World} (h : JoAt X R s q0 l0 j0 u bs cs W) (hb : Below W.heap.size W W') : JoAt X R s q0 l0 j0 u bs cs W' :=
  ⟨h.r.below hb, h.var.below hb, h.u0, World.ownsRow.kept h.bins (grown_of_below hb none) (by cases e : (Value.slice u.p1 u.l1 u.c1).ownBlock with | none => exact .inl rfl | some _ => exact .inr (by simp)), h.cols.only (Only.of_below (T := fun _ => False) hb) (fun _ _ e => e) (fun b q => ⟨fun e => e, q.1, q.2.1, Nat.lt_of_lt_of_le q.2.2 hb.size⟩), h.only.trans (Only.of_below (T := fun _ => False) hb) (fun _ e => e.elim), h.low⟩
/-- The bins of one more table. -/
theorem JoAt.more {X : World} {R s : Nat} {q0 : Option Addr} {l0 j0 : Nat} {u : TV} {bs bs' : List Int} {cs : List (List Int)} {W w5 : World} (h : JoAt X R s q0 l0 j0 u bs cs W) {a5 : Option Addr} {l5 c5 : Nat} (hO : IOwn w5 X.heap.size (.slice a5 l5 c5) bs') (hg : W.grownBy w5 (Value.slice u.p1 u.l1 u.c1).ownBlock) (hq : (Value.slice a5 l5 c5).ownBlock = (Value.slice u.p1 u.l1 u.c1).ownBlock ∨ (Value.slice a5 l5 c5).ownBlock = some W.heap.size) : JoAt X R s q0 l0 j0 ⟨u.p0, u.l0, u.c0, a5, l5, c5, u.p2, u.l2, u.c2⟩ bs' cs (w5.setCell ⟨s, 1, none⟩ (.slice a5 l5 c5)) := by
  have hnr := int_var h.bins h.r
  have hns := int_var h.bins h.var
  have o1 : Only (fun b => (Value.slice u.p1 u.l1 u.c1).ownBlock = some b) W w5 := Only.of_grown hg (fun b e => e)
  have v5 : TVar w5 s u := (hg.block s h.var.lt (fun e => hns e.symm)).trans h.var
  have r5 : TVar w5 R TV.none := (hg.block R h.r.lt (fun e => hnr e.symm)).trans h.r
  have o2 : Only (fun b => b = s) w5 (w5.setCell ⟨s, 1, none⟩ (.slice a5 l5 c5)) := set_only
  have hsW := h.var.lt
  have hXW := h.only.size
  refine ⟨(o2.block R r5.lt h.low.2).trans r5, ?_, h.u0, hO.kept (grown_set w5 s 1 _) (.inr (int_var hO v5)), ?_, ?_, h.low⟩
  · have k1 := heap_setCell_same w5 s 1 _ _ (.slice a5 l5 c5) v5
    exact k1
  · refine (h.cols.only (Q' := fun b => some b ≠ (Value.slice a5 l5 c5).ownBlock ∧ b ≠ s ∧ b < w5.heap.size) o1 (fun b e q => int_rows h.bins h.cols q e) (fun b q => ⟨fun e => q.1 e.symm, fun e => ?_, q.2.1, Nat.lt_of_lt_of_le q.2.2 hg.size⟩)).only o2 (fun b e q => ?_) (fun b q => ⟨q.2.1, q.1, q.2.1, by simpa using q.2.2⟩)
    · rcases hq with r | r
      · exact q.1 (e.trans r)
      · rw [r] at e
        cases e
        exact Nat.lt_irrefl _ q.2.2
    · subst q
      exact rows_var h.cols h.var e
  · exact (h.only.trans o1 (fun b e => .inr (World.ownsRow.lt h.bins b e).1)).trans o2 (fun b e => .inl e)
/-- One more column. -/
theorem JoAt.col {X : World} {R s : Nat} {q0 : Option Addr} {l0 j0 : Nat} {u : TV} {bs : List Int} {cs cs' : List (List Int)} {W w6 : World} (h : JoAt X R s q0 l0 j0 u bs cs W) {a6 : Option Addr} {l6 c6 : Nat} (hC : LHd (fun b => (some b ≠ (Value.slice u.p1 u.l1 u.c1).ownBlock ∧ b ≠ s ∧ b < W.heap.size) ∨ (W.heap.size ≤ b ∧ b < w6.heap.size)) w6 X.heap.size (.slice a6 l6 c6) cs') (hg : Only (fun b => (Value.slice u.p2 u.l2 u.c2).ownBlock = some b) W w6) : JoAt X R s q0 l0 j0 ⟨u.p0, u.l0, u.c0, u.p1, u.l1, u.c1, a6, l6, c6⟩ bs cs' (w6.setCell ⟨s, 2, none⟩ (.slice a6 l6 c6)) := by
  have hnr := rows_var h.cols h.r
  have hns := rows_var h.cols h.var
  have v5 : TVar w6 s u := (hg.block s h.var.lt (fun e => hns e)).trans h.var
  have r5 : TVar w6 R TV.none := (hg.block R h.r.lt (fun e => hnr e)).trans h.r
  have o2 : Only (fun b => b = s) w6 (w6.setCell ⟨s, 2, none⟩ (.slice a6 l6 c6)) := set_only
  have hXW := h.only.size
  have hsX := h.low.1
  have hbl : ∀ b, (Value.slice u.p1 u.l1 u.c1).ownBlock = some b → b < W.heap.size := fun b e => (World.ownsRow.lt h.bins b e).2
  have hb6 : IOwn w6 X.heap.size (.slice u.p1 u.l1 u.c1) bs := by
    obtain ⟨h1, h2⟩ := h.bins
    refine ⟨h1, ?_⟩
    rcases h2 with r | ⟨g, cap, cur, e, hb, hgq, hnc, hcm, hcs, htk⟩
    · exact .inl r
    · refine .inr ⟨g, cap, cur, e, hb, (hg.block g (Array.getElem?_eq_some_iff.1 hgq).1 (fun q => ?_)).trans hgq, hnc, hcm, hcs, htk⟩
      exact int_rows h.bins h.cols (by rw [e]; rfl) q
  refine ⟨(o2.block R r5.lt h.low.2).trans r5, ?_, h.u0, hb6.kept (grown_set w6 s 2 _) (.inr (int_var hb6 v5)), ?_, ?_, h.low⟩
  · exact heap_setCell_same w6 s 2 _ _ (.slice a6 l6 c6) v5
  · refine hC.only o2 (fun b e q => ?_) (fun b q => ?_)
    · subst q
      exact rows_var hC v5 e
    · rcases q with ⟨q1, q2, q3⟩ | ⟨q1, q2⟩
      · exact ⟨q2, q1, q2, by have := hg.size; simp; omega⟩
      · refine ⟨by omega, fun e => ?_, by omega, by simpa using q2⟩
        have := hbl b e.symm
        omega
  · exact (h.only.trans hg (fun b e => .inr (h.cols.own b e).2.1)).trans o2 (fun b e => .inl e)
end Go.Proofs.Ytaiikhbfnfcalab

namespace Go.Proofs.Ytaiikhbfnfcalab
open Go.RowKit

end Go.Proofs.Ytaiikhbfnfcalab

namespace Go.Proofs.Ytaiikhbfnfcalab
open Go.RowKit

theorem takeT {ts : List Tab} {i : Nat} (hi : i < ts.length) : ts.take (i + 1) = ts.take i ++ [ts.getD i Tab.none] := by
  rw [List.take_add_one]
  simp [List.getD, hi]
theorem takeC {L : List (List Int)} {k : Nat} (hk : k < L.length) : L.take (k + 1) = L.take k ++ [L.getD k []] := by
  rw [List.take_add_one]
  simp [List.getD, hk]

/-- What a call that makes a table makes. -/
def TabT15 (P : Int → Tab → Prop) (w : World) (e : Ending) (w' : World) : Prop := ∃ (v : TV) (t : Tab) (err : Int), e = .returned (.tuple #[.agg #[.slice v.p0 v.l0 v.c0, .slice v.p1 v.l1 v.c1, .slice v.p2 v.l2 v.c2], .int .i64 err]) ∧ TabAt w' v t ∧ P err t ∧ Below w.heap.size w w'
theorem lsts_var {W W' : World} {a : Option Addr} {l c g : Nat} {u : TV} {xs : List Int} (h : Lsts W a l c xs) (k : TVar W g u) (o : Only (fun b => b = g) W W') : Lsts W' a l c xs := ⟨h.hlen, h.hcap, h.hmax, fun hp => by
  obtain ⟨b, off, e, hc⟩ := h.cells hp
  refine ⟨b, off, e, fun i hi => ?_⟩
  have q := hc i hi
  refine o.cell q (fun e2 => ?_)
  have e3 : b = g := e2
  subst e3
  obtain ⟨cur, t, h1, h2⟩ := k.headI
  rw [cell_of_row _ _ _ _ _ _ h1] at q
  exact h2 _ _ q, h.word⟩
theorem LHd.row15 {Q : Nat → Prop} {w : World} {base : Nat} {p : Option Addr} {l c : Nat} {ns : List (List Int)} (h : LHd Q w base (.slice p l c) ns) : IRows w p l c ns := by
  obtain ⟨a, c', e, hr, -⟩ := h.row
  cases e
  exact hr
theorem LHd.rowVar {Q : Nat → Prop} {W W' : World} {base g : Nat} {p : Option Addr} {l c : Nat} {u : TV} {ns : List (List Int)} (h : LHd Q W base (.slice p l c) ns) (k : TVar W g u) (o : Only (fun b => b = g) W W') : IRows W' p l c ns := by
  have hr := h.row15
  have hne := rows_var h k
  refine ⟨hr.hlen, hr.hcap, hr.hmax, fun hp => ?_⟩
  obtain ⟨b, off, e, hc⟩ := hr.cells hp
  subst e
  refine ⟨b, off, rfl, fun i hi => ?_⟩
  obtain ⟨p', n', k', e1, e2⟩ := hc i hi
  exact ⟨p', n', k', o.cell e1 (fun q => hne (by have q' : b = g := q; rw [q']; rfl)), lsts_var e2 k o⟩
theorem IOwn.lsts15 {w : World} {base : Nat} {p : Option Addr} {l c : Nat} {xs : List Int} (h : IOwn w base (.slice p l c) xs) (hd : ∀ x, x ∈ xs → -9223372036854775808 ≤ x ∧ x < 9223372036854775808) : Lsts w p l c xs := by
  obtain ⟨a, c', e, hr, -⟩ := h.lsts hd
  cases e
  exact hr
end Go.Proofs.Ytaiikhbfnfcalab

namespace Go.Proofs.Ytaiikhbfnfcalab
open Go.RowKit

/-- A call of a function that leaves the world as it is, as one step of a region that draws. -/
theorem step_fn {P : Program} {ops : Array Oper} {o : Oper} {a : Act} {w : World} {K : Act → World → Prop} {Q : Exit → Act → World → Prop} {E : Prop} (hgd : o.guard = none) (f : FuncId) (args : Array Value) (v : Value) (hrun : (execOp a.eval o).run P w = .ok (.enter f args) w) (hc : Calls P f args w fun e w' => e = .returned v ∧ w' = w) (h : K (a.put o.dst v) w) : if Region.wanted o (yielded ops a.tmps) = true then Oper.wp P o a w K Q else E := by
  rw [if_pos (by simp [Region.wanted, hgd])]
  unfold Oper.wp
  rw [hrun]
  refine Calls.mono hc ?_
  rintro e w' ⟨rfl, rfl⟩
  exact h

end Go.Proofs.Ytaiikhbfnfcalab

namespace Go.Proofs.Ytaiikhbfnfcalab
open Go.RowKit

/-- A table whose blocks F tells. -/
structure TabF (F : Nat → Prop) (w : World) (v : TV) (t : Tab) : Prop where
  ids : LE F w v.p0 v.l0 v.c0 t.ids
  bins : LE F w v.p1 v.l1 v.c1 t.bins
  cols : IRows w v.p2 v.l2 v.c2 t.cols
  row : ∀ ad, v.p2 = some ad → F ad.block
  ent : ∀ ad i p n k, v.p2 = some ad → i < v.l2 → w.cell? ⟨ad.block, ad.off + i, none⟩ = some (.slice p n k) → ∀ a, p = some a → F a.block
theorem TabF.tab {F : Nat → Prop} {w : World} {v : TV} {t : Tab} (h : TabF F w v t) : TabAt w v t := ⟨h.ids.1, h.bins.1, h.cols⟩
/-- Take, under way: the table that is made. -/
structure TkAt (X : World) (g R s : Nat) (v u0 u : TV) (cs : List (List Int)) (W : World) : Prop where
  gv : TVar W g v
  r : TVar W R TV.none
  var : TVar W s u
  u0 : u.p0 = u0.p0 ∧ u.l0 = u0.l0 ∧ u.c0 = u0.c0 ∧ u.p1 = u0.p1 ∧ u.l1 = u0.l1 ∧ u.c1 = u0.c1
  cols : LHd (fun b => b ≠ s ∧ X.heap.size ≤ b) W X.heap.size (.slice u.p2 u.l2 u.c2) cs
  only : Only (fun b => b = s) X W
  low : s < X.heap.size ∧ R ≠ s ∧ g ≠ s
theorem TkAt.grow {X : World} {g R s : Nat} {v u0 u : TV} {cs : List (List Int)} {W W' : World} (h : TkAt X g R s v u0 u cs W) (hb : Below W.heap.size W W') : TkAt X g R s v u0 u cs W' :=
  ⟨h.gv.below hb, h.r.below hb, h.var.below hb, h.u0, h.cols.only (Only.of_below (T := fun _ => False) hb) (fun _ _ e => e) (fun _ q => ⟨fun e => e, q⟩), h.only.trans (Only.of_below (T := fun _ => False) hb) (fun _ e => e.elim), h.low⟩
theorem TkAt.col {X : World} {g R s : Nat} {v u0 u : TV} {cs cs' : List (List Int)} {W w6 : World} (h : TkAt X g R s v u0 u cs W) {a6 : Option Addr} {l6 c6 : Nat} (hC : LHd (fun b => b ≠ s ∧ X.heap.size ≤ b) w6 X.heap.size (.slice a6 l6 c6) cs') (hg : Only (fun b => (Value.slice u.p2 u.l2 u.c2).ownBlock = some b) W w6) : TkAt X g R s v u0 ⟨u.p0, u.l0, u.c0, u.p1, u.l1, u.c1, a6, l6, c6⟩ cs' (w6.setCell ⟨s, 2, none⟩ (.slice a6 l6 c6)) := by
  have v5 : TVar w6 s u := (hg.block s h.var.lt (fun e => rows_var h.cols h.var e)).trans h.var
  have r5 : TVar w6 R TV.none := (hg.block R h.r.lt (fun e => rows_var h.cols h.r e)).trans h.r
  have g5 : TVar w6 g v := (hg.block g h.gv.lt (fun e => rows_var h.cols h.gv e)).trans h.gv
  have o2 : Only (fun b => b = s) w6 (w6.setCell ⟨s, 2, none⟩ (.slice a6 l6 c6)) := set_only
  refine ⟨(o2.block g g5.lt h.low.2.2).trans g5, (o2.block R r5.lt h.low.2.1).trans r5, heap_setCell_same w6 s 2 _ _ (.slice a6 l6 c6) v5, h.u0, hC.only o2 (fun b e q => ?_) (fun _ q => ⟨q.1, q⟩), (h.only.trans hg (fun b e => .inr (h.cols.own b e).2.1)).trans o2 (fun b e => .inl e), h.low⟩
  subst q
  exact rows_var hC v5 e

end Go.Proofs.Ytaiikhbfnfcalab

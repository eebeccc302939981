/-
  The document's Take: the table that is made. Written by mk/r15take.py.
-/
import Derived.Test.YtaiikhbfnfcalabR15K
import Derived.Deep.RegionHeld3
namespace Go.Proofs.Ytaiikhbfnfcalab
open Go.RowKit

/-- A whole list is appended to an empty literal. -/
theorem run_appZ (w : World) (ty : TypeId) (b : Nat) {p : Option Addr} {l c : Nat} {ys : List Int} (hL : Lsts w p l c ys) (hl : l < 1000000) :
    ∃ a' c' w', (Builtin.append_ #[22, 22] ty #[.slice (some ⟨b, 0, none⟩) 0 0, .slice p l c]).run Try.prog w = .ok (.slice a' l c') w' ∧ Lsts w' a' l c' ys ∧ Below w.heap.size w w' ∧ (∀ ad, a' = some ad → ad.block = b ∨ w.heap.size ≤ ad.block) ∧ (∀ ad, a' = some ad → ad.block = b ∨ ad.block < w'.heap.size) := by
  obtain ⟨i0, hi, hz0, hz1, hz2⟩ := info_parts Try.infoI
  have hlen := hL.hlen
  rcases Nat.eq_zero_or_pos l with e | e
  · subst e
    have ey : ys = [] := List.eq_nil_of_length_eq_zero hlen
    subst ey
    refine ⟨some ⟨b, 0, none⟩, 0, w, ?_, ⟨rfl, Nat.le_refl _, Nat.zero_le _, fun h => absurd h (Nat.lt_irrefl _), fun x hx => by cases hx⟩, Below.refl _ _, fun ad e => (by cases e; exact .inl rfl), fun ad e => (by cases e; exact .inl rfl)⟩
    cases p with
    | none => simp [Builtin.append_, run_underlying Try.underlying22, sizeOf, typeInfo, hi, Builtin.lenOf, Builtin.firstCells, storeCells]
    | some ad =>
      have hr := run_append_room_cells (P := Try.prog) w 22 ty 3 i0 Try.underlying22 hi b 0 0 0 ad 0 c [] (by simp) (fun j u hj => by simp at hj) (fun u hu => by cases hu) (Nat.le_refl _) (fun j hj => absurd hj (Nat.not_lt_zero _)) (fun j hj => absurd hj (Nat.not_lt_zero _))
      exact hr
  · obtain ⟨bp, off, rfl, hc⟩ := hL.cells e
    obtain ⟨v', w', hr, h2, h3⟩ := run_append_arg_grows (P := Try.prog) w 22 ty 3 i0 (.int .i64 0) 1 8 Try.underlying22 hi hz0 hz1 hz2 rfl (by decide) ⟨b, 0, none⟩ 0 0 [] rfl (fun j u hj => by simp at hj) ⟨bp, off, none⟩ l c (ys.map (Value.int .i64)) (by simp [hlen]) (fun j u hj => by
      have hjl : j < l := by have := (List.getElem?_eq_some_iff.1 hj).1; simp at this; omega
      rw [Addr.add_lit, hc j hjl, ← hj, List.getElem?_map, List.getElem?_eq_getElem (by omega)]
      simp [List.getD, List.getElem?_eq_getElem (show j < ys.length by omega)]) (by omega) (by unfold maxLen; omega) (by omega)
    have hO : IOwn w' w.heap.size v' ys := by
      unfold IOwn
      rw [hlen]
      simpa using h2
    have hlt := World.ownsRow.lt hO
    obtain ⟨a', c', rfl, hL', -⟩ := hO.lsts hL.word
    rw [hlen] at hL' hr hlt
    exact ⟨a', c', w', hr, hL', ⟨h3.os, h3.tape, h3.output, h3.size, fun i hi => h3.block i hi (by simp)⟩, fun ad e => (by subst e; exact .inr (hlt ad.block rfl).1), fun ad e => (by subst e; exact .inr (hlt ad.block rfl).2)⟩
theorem step_appZ (w : World) {ops : Array Oper} {o : Oper} {a : Act} {K : Act → World → Prop} {Q : Exit → Act → World → Prop} {E : Prop} (hgd : o.guard = none) (s x : Operand)
    (ho : o.op = .call { callee := .builtin .append, args := #[s, x], argTypes := #[22, 22] })
    (b : Nat) (hs : a.eval s = .slice (some ⟨b, 0, none⟩) 0 0) (p : Option Addr) (l c : Nat) (ys : List Int) (hx : a.eval x = .slice p l c) (hL : Lsts w p l c ys) (hl : l < 1000000)
    (h : ∀ a' c' w', Lsts w' a' l c' ys → Below w.heap.size w w' → (∀ ad, a' = some ad → ad.block = b ∨ w.heap.size ≤ ad.block) → (∀ ad, a' = some ad → ad.block = b ∨ ad.block < w'.heap.size) → K (a.put o.dst (.slice a' l c')) w') : if Region.wanted o (yielded ops a.tmps) = true then Oper.wp Try.prog o a w K Q else E := by
  rw [if_pos (by simp [Region.wanted, hgd])]
  obtain ⟨a', c', w', hr, h2, h3, h4, h5⟩ := run_appZ w o.type b hL hl
  unfold Oper.wp
  simp [execOp, ho, resolve, invoke, builtin, hs, hx, hr, Result.andThen]
  exact h a' c' w' h2 h3 h4 h5
theorem bst15 {V w : World} {p : Addr} (h : Below V.heap.size V w) (hp : V.heap.size ≤ p.block) (v : Value) : Below V.heap.size V (w.setCell p v) := h.setCell hp v
theorem cut15 {P R : Prop} (p : P) (f : P → R) : R := f p
theorem TVar.go15 {w : World} {g : Nat} {v : TV} (h : TVar w g v) (o : Obj) : TVar (w.alloc o) g v := h.below (balloc w o)
theorem TVar.dr15 {w : World} {g : Nat} {v : TV} (h : TVar w g v) : TVar w.drew g v := h
theorem TVar.at15 {w : World} {g g' : Nat} {v : TV} (h : TVar w g v) (e : g = g') : TVar w g' v := e ▸ h
theorem tvput15 {w : World} {s l0 c0 l1 c1 l2 c2 : Nat} {p0 p1 p2 : Option Addr} {v : TV} (h : TVar w s v) : TVar (((w.setCell ⟨s, 0, none⟩ (.slice p0 l0 c0)).setCell ⟨s, 1, none⟩ (.slice p1 l1 c1)).setCell ⟨s, 2, none⟩ (.slice p2 l2 c2)) s ⟨p0, l0, c0, p1, l1, c1, p2, l2, c2⟩ :=
  heap_setCell_same _ s 2 _ _ (.slice p2 l2 c2) (heap_setCell_same _ s 1 _ _ (.slice p1 l1 c1) (heap_setCell_same w s 0 _ _ (.slice p0 l0 c0) h))
theorem only3_15 {w : World} {s : Nat} (x y z : Value) : Only (fun b => b = s) w (((w.setCell ⟨s, 0, none⟩ x).setCell ⟨s, 1, none⟩ y).setCell ⟨s, 2, none⟩ z) := put3_only x y z
theorem le15 {w w1 wx : World} {s B n c : Nat} {p : Option Addr} {zs : List Int} (h : Lsts w p n c zs) (hb : Below w.heap.size w w1) (k : Only (fun b => b = s) w1 wx) (hp : ∀ ad, p = some ad → B ≤ ad.block ∧ ad.block ≠ s) : LE (fun b => B ≤ b ∧ b ≠ s) wx p n c zs := ⟨lsts_only15 (h.below hb) k (fun ad e => (hp ad e).2), hp⟩
theorem below_cells {w w' : World} (h : Below w.heap.size w w') : (∀ q j, q < w.heap.size → w'.cell? ⟨q, j, none⟩ = w.cell? ⟨q, j, none⟩) ∧ (∀ q j, q < w.heap.size → w'.frozen? ⟨q, j, none⟩ = w.frozen? ⟨q, j, none⟩) := ⟨fun q j hq => World.cell?_of_block (h.block q hq), fun q j hq => by simp only [World.frozen?, h.block q hq]⟩

end Go.Proofs.Ytaiikhbfnfcalab

/-
  Slices that the call itself makes by append: what they hold, and the laws of append at one word and at many.
-/
import Derived.Test.YtaipkganijofjabFew
import Derived.Laws.AppendOwnNone
namespace Go.Proofs.Ytaipkganijofjab
open Go.RowKit

/-- The slice value v, in a row of the call's own from block 'base' on, holds the words zs. -/
def Own (w : World) (base : Nat) (v : Value) (zs : List Int) : Prop := w.ownsRow base 29 1 v zs.length (zs.map (Value.int .u64))

theorem Own.nil (w : World) (base : Nat) : Own w base (.slice none 0 0) [] := World.ownsRow_nil _ _ _ _
theorem Own.alloc {w : World} {base : Nat} {v : Value} {zs : List Int} (h : Own w base v zs) (o : Obj) : Own (w.alloc o) base v zs := World.ownsRow.alloc h o
theorem Own.drewN {w : World} {base : Nat} {v : Value} {zs : List Int} (h : Own w base v zs) (n : Nat) : Own (w.drewN n) base v zs := h

theorem Own.nums {w : World} {base : Nat} {v : Value} {zs : List Int} (h : Own w base v zs) (hd : Digs 18446744073709551616 zs) : ∃ a cap, v = .slice a zs.length cap ∧ Nums w a zs.length cap zs := by
  obtain ⟨h1, h2⟩ := h
  rcases h2 with ⟨rfl, hn⟩ | ⟨g, cap, cur, rfl, hb, hg, hnc, hcm, hcs, htk⟩
  · have e : zs = [] := List.eq_nil_of_length_eq_zero hn
    subst e
    exact ⟨none, 0, rfl, Nums.nil _⟩
  · refine ⟨some ⟨g, 0, none⟩, cap, rfl, rfl, hnc, hcm, fun _ => ⟨g, 0, rfl, fun i hi => ?_⟩, hd⟩
    have hown : w.ownsRow base 29 1 (.slice (some ⟨g, 0, none⟩) zs.length cap) zs.length (zs.map (Value.int .u64)) := ⟨h1, .inr ⟨g, cap, cur, rfl, hb, hg, hnc, hcm, hcs, htk⟩⟩
    rw [Nat.zero_add, hown.cellAt i (by omega)]
    simp [List.getD, hi]

theorem Try.info25 : (Try.prog.info? 29).map (fun i => (i.zero, i.size, i.bytes)) = some (some (.int .u64 0), 1, 8) := by kernel_rfl

theorem wpList_app1 (w : World) {ops : Array Oper} {rest : List Oper} {o : Oper} {a : Act} {Q : Exit → Act → World → Prop} (hgd : o.guard = none) (s x : Operand) (t : TypeId)
    (ho : o.op = .call { callee := .builtin .append, args := #[s, x], argTypes := #[t, t] }) (ht : Try.prog.underlying t = some (.slice 29))
    (base : Nat) (v : Value) (zs : List Int) (hs : a.eval s = v) (hown : Own w base v zs) (ad : Addr) (y : Int) (hx : a.eval x = .slice (some ad) 1 1) (hc : w.cell? ad = some (.int .u64 y))
    (hlen : zs.length < 1000000) (w0 : World) (hbase : base ≤ w.heap.size) (hb : Below base w0 w)
    (h : ∀ v' w', Own w' base v' (zs ++ [y]) → Below base w0 w' → wpList Try.prog ops Q rest (a.put o.dst v') w') : wpList Try.prog ops Q (o :: rest) a w := by
  obtain ⟨i0, hi, hz0, hz1, hz2⟩ := info_parts Try.info25
  refine wpList_append_own w hgd s x t ho base 29 i0 (.int .u64 0) 1 8 ht hi hz0 hz1 hz2 rfl (by decide) v zs.length (zs.map (Value.int .u64)) hs hown ad 1 1 [.int .u64 y] hx rfl ?_ ?_ ?_ ?_ hbase ?_
  · intro j u hj
    match j, hj with
    | 0, hj =>
      simp at hj; subst hj
      obtain ⟨b, off, spot⟩ := ad
      have hspot : spot = none := World.cell?_spot hc
      subst hspot
      rw [Addr.add_lit]; exact hc
  · intro u hu; simp at hu; subst hu; rfl
  · unfold maxLen; omega
  · omega
  · intro v' w' h2 h3 _
    refine h v' w' ?_ (hb.grown h3 hbase (fun k hk => (World.ownsRow.lt hown k hk).1))
    have e : (zs ++ [y]).length = zs.length + 1 := by simp
    unfold Own
    rw [e, List.map_append]
    exact h2

theorem Own.numsN {w : World} {base : Nat} {v : Value} {zs : List Int} (h : Own w base v zs) (hd : Digs 18446744073709551616 zs) : ∃ a n cap, v = .slice a n cap ∧ Nums w a n cap zs := by
  obtain ⟨a, cap, e, hn⟩ := h.nums hd
  exact ⟨a, _, cap, e, hn⟩

theorem Own.numsZ {w : World} {base : Nat} {v : Value} {zs : List Int} (h : Own w base v zs) (hd : Digs 18446744073709551616 zs) : ∃ a n cap, v = .slice a n cap ∧ Nums w a n cap zs ∧ (a = none → cap = 0) := by
  obtain ⟨a, cap, e, hn⟩ := h.nums hd
  refine ⟨a, _, cap, e, hn, fun ha => ?_⟩
  rcases h.2 with ⟨rfl, _⟩ | ⟨g, cap', cur, rfl, _⟩
  · simp only [Value.slice.injEq] at e; omega
  · subst ha; simp at e

theorem wpList_appN (w : World) {ops : Array Oper} {rest : List Oper} {o : Oper} {a : Act} {Q : Exit → Act → World → Prop} (hgd : o.guard = none) (s x : Operand) (t : TypeId)
    (ho : o.op = .call { callee := .builtin .append, args := #[s, x], argTypes := #[t, t] }) (ht : Try.prog.underlying t = some (.slice 29))
    (base : Nat) (v : Value) (zs : List Int) (hs : a.eval s = v) (hown : Own w base v zs) (sa : Option Addr) (m c : Nat) (ys : List Int) (hx : a.eval x = .slice sa m c) (hy : Nums w sa m c ys) (hnil : sa = none → c = 0)
    (hlen : zs.length + m < 1000000) (w0 : World) (hbase : base ≤ w.heap.size) (hb : Below base w0 w)
    (h : ∀ v' w', Own w' base v' (zs ++ ys) → Below base w0 w' → wpList Try.prog ops Q rest (a.put o.dst v') w') : wpList Try.prog ops Q (o :: rest) a w := by
  obtain ⟨i0, hi, hz0, hz1, hz2⟩ := info_parts Try.info25
  have hl := hy.hlen
  cases sa with
  | none =>
    have hm : m = 0 := by
      rcases Nat.eq_zero_or_pos m with h0 | h0
      · exact h0
      · obtain ⟨b, off, e, _⟩ := hy.cells h0; cases e
    subst hm
    obtain rfl := hnil rfl
    have e : ys = [] := List.eq_nil_of_length_eq_zero hl
    subst e
    refine wpList_plain hgd fun K hK' => ?_
    have hrun := run_append_owned_none (P := Try.prog) w base t o.type 29 i0 1 ht hi _ _ _ hown
    unfold Oper.wp
    simp [execOp, ho, resolve, invoke, builtin, hs, hx, hrun, Result.andThen]
    exact hK' _ _ (h v w (by simpa using hown) hb)
  | some ad =>
    refine wpList_append_own w hgd s x t ho base 29 i0 (.int .u64 0) 1 8 ht hi hz0 hz1 hz2 rfl (by decide) v zs.length (zs.map (Value.int .u64)) hs hown ad m c (ys.map (Value.int .u64)) hx (by simp [hl]) ?_ (ints_oneCell _ _) ?_ ?_ hbase ?_
    · intro j u hj
      have hjm : j < m := by have := (List.getElem?_eq_some_iff.1 hj).1; simp at this; omega
      obtain ⟨b, off, e, hc⟩ := hy.cells (by omega)
      cases e
      rw [Addr.add_lit, hc j hjm]
      have : (ys.map (Value.int .u64))[j]? = some (.int .u64 (ys.getD j 0)) := by simp [List.getD, show j < ys.length by omega]
      rw [this] at hj
      exact hj
    · unfold maxLen; omega
    · omega
    · intro v' w' h2 h3 _
      refine h v' w' ?_ (hb.grown h3 hbase (fun k hk => (World.ownsRow.lt hown k hk).1))
      have e : (zs ++ ys).length = zs.length + m := by simp [hl]
      unfold Own
      rw [e, List.map_append]
      exact h2

theorem Own.empty (w : World) : Own (w.alloc (.cells #[] 29)) w.heap.size (.slice (some ⟨w.heap.size, 0, none⟩) 0 0) [] :=
  World.ownsRow_lit w #[] 0 (Nat.le_refl _) (Nat.zero_le _) rfl

end Go.Proofs.Ytaipkganijofjab

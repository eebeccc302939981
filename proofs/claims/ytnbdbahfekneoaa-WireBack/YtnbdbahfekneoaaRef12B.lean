/-
  The document's messages: rows of whole numbers of a call's own.
-/
import Derived.Test.YtnbdbahfekneoaaRef12A
import Derived.Test.YtnbdbahfekneoaaR9B
namespace Go.Proofs.Ytnbdbahfekneoaa
open Go.RowKit

/-- The slice value v, in a row of the call's own from block 'base' on, holds the whole numbers xs. -/
def IOwn (w : World) (base : Nat) (v : Value) (xs : List Int) : Prop := w.ownsRow base 3 1 v xs.length (xs.map (Value.int .i64))
theorem IOwn.nil (w : World) (base : Nat) : IOwn w base (.slice none 0 0) [] := World.ownsRow_nil _ _ _ _
theorem IOwn.alloc {w : World} {base : Nat} {v : Value} {xs : List Int} (h : IOwn w base v xs) (o : Obj) : IOwn (w.alloc o) base v xs := World.ownsRow.alloc h o
theorem IOwn.grown {w w' : World} {base : Nat} {v : Value} {xs : List Int} {k : Nat} (h : IOwn w base v xs) (hg : w.grownBy w' (some k)) (hk : k < base) : IOwn w' base v xs :=
  World.ownsRow.kept h hg (by
    cases e : v.ownBlock with
    | none => exact .inl rfl
    | some q =>
      right
      intro e2
      have := (World.ownsRow.lt h q e).1
      have := Option.some.inj e2
      omega)
theorem IOwn.lsts {w : World} {base : Nat} {v : Value} {xs : List Int} (h : IOwn w base v xs) (hd : ∀ x, x ∈ xs → -9223372036854775808 ≤ x ∧ x < 9223372036854775808) : ∃ a cap, v = .slice a xs.length cap ∧ Lsts w a xs.length cap xs ∧ (a = none → cap = 0) := by
  obtain ⟨h1, h2⟩ := h
  rcases h2 with ⟨rfl, hn⟩ | ⟨g, cap, cur, rfl, hb, hg, hnc, hcm, hcs, htk⟩
  · have e : xs = [] := List.eq_nil_of_length_eq_zero hn
    subst e
    exact ⟨none, 0, rfl, Lsts.nil _, fun _ => rfl⟩
  · refine ⟨some ⟨g, 0, none⟩, cap, rfl, ⟨rfl, hnc, hcm, fun _ => ⟨g, 0, rfl, fun i hi => ?_⟩, hd⟩, fun e => by cases e⟩
    have hown : w.ownsRow base 3 1 (.slice (some ⟨g, 0, none⟩) xs.length cap) xs.length (xs.map (Value.int .i64)) := ⟨h1, .inr ⟨g, cap, cur, rfl, hb, hg, hnc, hcm, hcs, htk⟩⟩
    rw [Nat.zero_add, hown.cellAt i (by omega)]
    simp [List.getD, hi]
theorem Try.infoI : (Try.prog.info? 3).map (fun i => (i.zero, i.size, i.bytes)) = some (some (.int .i64 0), 1, 8) := by kernel_rfl
theorem wpList_appI1 (w : World) {ops : Array Oper} {rest : List Oper} {o : Oper} {a : Act} {Q : Exit → Act → World → Prop} (hgd : o.guard = none) (s x : Operand) (t : TypeId)
    (ho : o.op = .call { callee := .builtin .append, args := #[s, x], argTypes := #[t, t] }) (ht : Try.prog.underlying t = some (.slice 3))
    (base : Nat) (v : Value) (xs : List Int) (hs : a.eval s = v) (hown : IOwn w base v xs) (ad : Addr) (y : Int) (hx : a.eval x = .slice (some ad) 1 1) (hc : w.cell? ad = some (.int .i64 y))
    (hlen : xs.length < 1000000) (hbase : base ≤ w.heap.size)
    (h : ∀ v' w', IOwn w' base v' (xs ++ [y]) → w.grownBy w' v.ownBlock → wpList Try.prog ops Q rest (a.put o.dst v') w') : wpList Try.prog ops Q (o :: rest) a w := by
  obtain ⟨i0, hi, hz0, hz1, hz2⟩ := info_parts Try.infoI
  refine wpList_append_own w hgd s x t ho base 3 i0 (.int .i64 0) 1 8 ht hi hz0 hz1 hz2 rfl (by decide) v xs.length (xs.map (Value.int .i64)) hs hown ad 1 1 [.int .i64 y] hx rfl ?_ ?_ ?_ ?_ hbase ?_
  · intro j u hj
    match j, hj with
    | 0, hj =>
      simp at hj; subst hj
      obtain ⟨b, off, spot⟩ := ad
      have hspot : spot = none := World.cell?_spot hc
      subst hspot
      rw [Addr.add_lit]; exact hc
  · intro u hu; simp at hu; subst hu; rfl
  · unfold maxLen; omega
  · omega
  · intro v' w' h2 h3 _
    refine h v' w' ?_ h3
    have e : (xs ++ [y]).length = xs.length + 1 := by simp
    unfold IOwn
    rw [e, List.map_append]
    exact h2
end Go.Proofs.Ytnbdbahfekneoaa

/-
  The contract of the document's Bytes.
-/
import Derived.Test.YtambpcgdaogojabGreatRefRead
import Derived.Test.YtambpcgdaogojabGreatNatA
namespace Go.Proofs.YtambpcgdaogojabGreat
open Go.RowKit

/-- The slice value v, in a row of the call's own from block 'base' on, holds the bytes zs. -/
def BOwn (w : World) (base : Nat) (v : Value) (zs : List Int) : Prop := w.ownsRow base 5 1 v zs.length (zs.map (Value.int .u8))

theorem BOwn.nil (w : World) (base : Nat) : BOwn w base (.slice none 0 0) [] := World.ownsRow_nil _ _ _ _
theorem BOwn.alloc {w : World} {base : Nat} {v : Value} {zs : List Int} (h : BOwn w base v zs) (o : Obj) : BOwn (w.alloc o) base v zs := World.ownsRow.alloc h o

theorem BOwn.byts {w : World} {base : Nat} {v : Value} {zs : List Int} (h : BOwn w base v zs) (hd : Digs 256 zs) : ∃ a cap, v = .slice a zs.length cap ∧ Byts w a zs.length cap zs := by
  obtain ⟨h1, h2⟩ := h
  rcases h2 with ⟨rfl, hn⟩ | ⟨g, cap, cur, rfl, hb, hg, hnc, hcm, hcs, htk⟩
  · have e : zs = [] := List.eq_nil_of_length_eq_zero hn
    subst e
    exact ⟨none, 0, rfl, Byts.nil _⟩
  · refine ⟨some ⟨g, 0, none⟩, cap, rfl, rfl, hnc, hcm, fun _ => ⟨g, 0, rfl, fun i hi => ?_⟩, hd⟩
    have hown : w.ownsRow base 5 1 (.slice (some ⟨g, 0, none⟩) zs.length cap) zs.length (zs.map (Value.int .u8)) := ⟨h1, .inr ⟨g, cap, cur, rfl, hb, hg, hnc, hcm, hcs, htk⟩⟩
    rw [Nat.zero_add, hown.cellAt i (by omega)]
    simp [List.getD, hi]

theorem wpList_appB1 (w : World) {ops : Array Oper} {rest : List Oper} {o : Oper} {a : Act} {Q : Exit → Act → World → Prop} (hgd : o.guard = none) (s x : Operand) (t : TypeId)
    (ho : o.op = .call { callee := .builtin .append, args := #[s, x], argTypes := #[t, t] }) (ht : Tryz.prog.underlying t = some (.slice 5))
    (base : Nat) (v : Value) (zs : List Int) (hs : a.eval s = v) (hown : BOwn w base v zs) (ad : Addr) (y : Int) (hx : a.eval x = .slice (some ad) 1 1) (hc : w.cell? ad = some (.int .u8 y))
    (hlen : zs.length < 1000000) (w0 : World) (hbase : base ≤ w.heap.size) (hb : Below base w0 w)
    (h : ∀ v' w', BOwn w' base v' (zs ++ [y]) → Below base w0 w' → wpList Tryz.prog ops Q rest (a.put o.dst v') w') : wpList Tryz.prog ops Q (o :: rest) a w := by
  obtain ⟨i0, hi, hz0, hz1, hz2⟩ := info_parts Tryz.infoB
  refine wpList_append_own w hgd s x t ho base 5 i0 (.int .u8 0) 1 1 ht hi hz0 hz1 hz2 rfl (by decide) v zs.length (zs.map (Value.int .u8)) hs hown ad 1 1 [.int .u8 y] hx rfl ?_ ?_ ?_ ?_ hbase ?_
  · intro j u hj
    match j, hj with
    | 0, hj =>
      simp at hj; subst hj
      obtain ⟨b, off, spot⟩ := ad
      have hspot : spot = none := World.cell?_spot hc
      subst hspot
      rw [Addr.add_lit]; exact hc
  · intro u hu; simp at hu; subst hu; rfl
  · unfold maxLen; omega
  · omega
  · intro v' w' h2 h3 _
    refine h v' w' ?_ (hb.grown h3 hbase (fun k hk => (World.ownsRow.lt hown k hk).1))
    have e : (zs ++ [y]).length = zs.length + 1 := by simp
    unfold BOwn
    rw [e, List.map_append]
    exact h2


theorem rb_two {bs : List Int} {x : Int} (hd : Digs 256 bs) (ht : Top bs.reverse) (hx : 0 ≤ x ∧ x < 65536) (h : bs ≠ [] ∨ 255 < x) :
    Digs 256 ((bs ++ [x / 256]) ++ [x % 256]) ∧ Top ((bs ++ [x / 256]) ++ [x % 256]).reverse ∧ val 256 ((bs ++ [x / 256]) ++ [x % 256]).reverse = x + 65536 * val 256 bs.reverse ∧ (bs ++ [x / 256]) ++ [x % 256] ≠ [] := by
  have e : ((bs ++ [x / 256]) ++ [x % 256]).reverse = x % 256 :: x / 256 :: bs.reverse := by simp
  refine ⟨(hd.snoc ⟨by omega, by omega⟩).snoc ⟨by omega, by omega⟩, ?_, ?_, by simp⟩
  · rw [e]
    right
    rcases ht with h0 | h0
    · have hb : bs = [] := by simpa using h0
      subst hb
      rcases h with h | h
      · exact absurd rfl h
      · simp; omega
    · have hl : 0 < bs.reverse.length := by
        cases hr : bs.reverse with
        | nil => rw [hr] at h0; simp at h0
        | cons a b => simp
      have hl2 : (x % 256 :: x / 256 :: bs.reverse).length - 1 = (bs.reverse.length - 1) + 2 := by simp at hl ⊢; omega
      rw [hl2]
      simpa using h0
  · rw [e]
    simp only [val]
    omega

theorem rb_one {x : Int} (hx : 0 < x ∧ x ≤ 255) : Digs 256 ([] ++ [x % 256]) ∧ Top ([] ++ [x % 256] : List Int).reverse ∧ val 256 ([] ++ [x % 256] : List Int).reverse = x + 65536 * val 256 ([] : List Int).reverse ∧ ([] ++ [x % 256] : List Int) ≠ [] := by
  refine ⟨(Digs.nil _).snoc ⟨by omega, by omega⟩, ?_, ?_, by simp⟩
  · right; simp; omega
  · simp [val]; omega

theorem drop_val {B : Int} {ds : List Int} {i : Nat} (h : i < ds.length) : val B (ds.drop i) = ds.getD i 0 + B * val B (ds.drop (i + 1)) := by
  rw [List.drop_eq_getElem_cons h, val]
  simp [List.getD, h]

end Go.Proofs.YtambpcgdaogojabGreat

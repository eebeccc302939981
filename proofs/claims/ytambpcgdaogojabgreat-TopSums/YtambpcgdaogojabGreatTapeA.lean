/-
  How tapes lie in memory, the program's and the document's; contracts of New and Left.
-/
import Derived.Test.YtambpcgdaogojabGreatTMath
import Derived.Test.YtambpcgdaogojabGreatBConv
import Derived.Lib.SliceRun
namespace Go.Proofs.YtambpcgdaogojabGreat
open Go.RowKit

theorem BOwn.empty (w : World) : BOwn (w.alloc (.cells #[] 5)) w.heap.size (.slice (some ⟨w.heap.size, 0, none⟩) 0 0) [] :=
  World.ownsRow_lit w #[] 0 (Nat.le_refl _) (Nat.zero_le _) rfl

theorem BOwn.fresh {w : World} {base : Nat} {v : Value} {zs : List Int} (h : BOwn w base v zs) (hd : Digs 256 zs) :
    ∃ a n cap, v = .slice a n cap ∧ Byts w a n cap zs ∧ (0 < n → ∃ g, a = some ⟨g, 0, none⟩ ∧ base ≤ g ∧ BBlk w g zs) ∧ (v ≠ .slice none 0 0 → a ≠ none) := by
  obtain ⟨h1, h2⟩ := h
  rcases h2 with ⟨rfl, hn⟩ | ⟨g, cap, cur, rfl, hb, hg, hnc, hcm, hcs, htk⟩
  · have e : zs = [] := List.eq_nil_of_length_eq_zero hn
    subst e
    exact ⟨none, 0, 0, rfl, Byts.nil _, fun h => absurd h (Nat.lt_irrefl _), fun hv => absurd rfl hv⟩
  · have hblk : BBlk w g zs := ⟨cur, hg, by simpa using htk⟩
    refine ⟨some ⟨g, 0, none⟩, zs.length, cap, rfl, ⟨rfl, hnc, hcm, fun _ => ⟨g, 0, rfl, fun i hi => ?_⟩, hd⟩, fun _ => ⟨g, rfl, hb, hblk⟩, fun _ e => by cases e⟩
    rw [Nat.zero_add]; exact hblk.cell hi

theorem wp_appBN (w : World) {o : Oper} {a : Act} {K : Act → World → Prop} {Q : Exit → Act → World → Prop} (s x : Operand) (t : TypeId)
    (ho : o.op = .call { callee := .builtin .append, args := #[s, x], argTypes := #[t, t] }) (ht : Tryz.prog.underlying t = some (.slice 5))
    (base : Nat) (v : Value) (zs : List Int) (hs : a.eval s = v) (hown : BOwn w base v zs) (sa : Option Addr) (m c : Nat) (ys : List Int) (hx : a.eval x = .slice sa m c) (hy : Byts w sa m c ys) (hnil : sa = none → c = 0)
    (hlen : zs.length + m < 1000000) (w0 : World) (hbase : base ≤ w.heap.size) (hb : Below base w0 w)
    (h : ∀ v' w', BOwn w' base v' (zs ++ ys) → Below base w0 w' → (v ≠ .slice none 0 0 → v' ≠ .slice none 0 0) → K (a.put o.dst v') w') : Oper.wp Tryz.prog o a w K Q := by
  obtain ⟨i0, hi, hz0, hz1, hz2⟩ := info_parts Tryz.infoB
  have hl := hy.hlen
  cases sa with
  | none =>
    have hm : m = 0 := by
      rcases Nat.eq_zero_or_pos m with h0 | h0
      · exact h0
      · obtain ⟨b, off, e, _⟩ := hy.cells h0; cases e
    subst hm
    obtain rfl := hnil rfl
    have e : ys = [] := List.eq_nil_of_length_eq_zero hl
    subst e
    have hrun := run_append_owned_none (P := Tryz.prog) w base t o.type 5 i0 1 ht hi _ _ _ hown
    unfold Oper.wp
    simp [execOp, ho, resolve, invoke, builtin, hs, hx, hrun, Result.andThen]
    exact h v w (by simpa using hown) hb id
  | some ad =>
    refine wp_append_own w s x t ho base 5 i0 (.int .u8 0) 1 1 ht hi hz0 hz1 hz2 rfl (by decide) v zs.length (zs.map (Value.int .u8)) hs hown ad m c (ys.map (Value.int .u8)) hx (by simp [hl]) ?_ (ints_oneCell _ _) ?_ ?_ hbase ?_
    · intro j u hj
      have hjm : j < m := by have := (List.getElem?_eq_some_iff.1 hj).1; simp at this; omega
      obtain ⟨b, off, e, hc⟩ := hy.cells (by omega)
      cases e
      rw [Addr.add_lit, hc j hjm]
      have : (ys.map (Value.int .u8))[j]? = some (.int .u8 (ys.getD j 0)) := by simp [List.getD, show j < ys.length by omega]
      rw [this] at hj
      exact hj
    · unfold maxLen; omega
    · omega
    · intro v' w' h2 h3 h4
      refine h v' w' ?_ (hb.grown h3 hbase (fun k hk => (World.ownsRow.lt hown k hk).1)) (fun hv e => hv (h4.1 e).1)
      have e : (zs ++ ys).length = zs.length + m := by simp [hl]
      unfold BOwn
      rw [e, List.map_append]
      exact h2

theorem wpList_appBN (w : World) {ops : Array Oper} {rest : List Oper} {o : Oper} {a : Act} {Q : Exit → Act → World → Prop} (hgd : o.guard = none) (s x : Operand) (t : TypeId)
    (ho : o.op = .call { callee := .builtin .append, args := #[s, x], argTypes := #[t, t] }) (ht : Tryz.prog.underlying t = some (.slice 5))
    (base : Nat) (v : Value) (zs : List Int) (hs : a.eval s = v) (hown : BOwn w base v zs) (sa : Option Addr) (m c : Nat) (ys : List Int) (hx : a.eval x = .slice sa m c) (hy : Byts w sa m c ys) (hnil : sa = none → c = 0)
    (hlen : zs.length + m < 1000000) (w0 : World) (hbase : base ≤ w.heap.size) (hb : Below base w0 w)
    (h : ∀ v' w', BOwn w' base v' (zs ++ ys) → Below base w0 w' → (v ≠ .slice none 0 0 → v' ≠ .slice none 0 0) → wpList Tryz.prog ops Q rest (a.put o.dst v') w') : wpList Tryz.prog ops Q (o :: rest) a w :=
  wpList_plain hgd fun _ hK => wp_appBN w s x t ho ht base v zs hs hown sa m c ys hx hy hnil hlen w0 hbase hb fun v' w' h2 h3 h4 => hK _ _ (h v' w' h2 h3 h4)

theorem step_appBN (w : World) {ops : Array Oper} {o : Oper} {a : Act} {K : Act → World → Prop} {Q : Exit → Act → World → Prop} {E : Prop} (hgd : o.guard = none) (s x : Operand) (t : TypeId)
    (ho : o.op = .call { callee := .builtin .append, args := #[s, x], argTypes := #[t, t] }) (ht : Tryz.prog.underlying t = some (.slice 5))
    (base : Nat) (v : Value) (zs : List Int) (hs : a.eval s = v) (hown : BOwn w base v zs) (sa : Option Addr) (m c : Nat) (ys : List Int) (hx : a.eval x = .slice sa m c) (hy : Byts w sa m c ys) (hnil : sa = none → c = 0)
    (hlen : zs.length + m < 1000000) (w0 : World) (hbase : base ≤ w.heap.size) (hb : Below base w0 w)
    (h : ∀ v' w', BOwn w' base v' (zs ++ ys) → Below base w0 w' → (v ≠ .slice none 0 0 → v' ≠ .slice none 0 0) → K (a.put o.dst v') w') : if Region.wanted o (yielded ops a.tmps) = true then Oper.wp Tryz.prog o a w K Q else E := by
  have hw : Region.wanted o (yielded ops a.tmps) = true := by simp [Region.wanted, hgd]
  rw [if_pos hw]
  exact wp_appBN w s x t ho ht base v zs hs hown sa m c ys hx hy hnil hlen w0 hbase hb h

/-- Block g holds neither bytes nor words. -/
def Head (w : World) (g : Nat) : Prop := ∃ cur T, w.heap[g]? = some (.cells cur T (0, 0)) ∧ ∀ (j : Nat) (x : Int), cur[j]? ≠ some (.int .u8 x) ∧ cur[j]? ≠ some (.int .u64 x)

theorem Byts.head {w w' : World} {a : Option Addr} {len cap g : Nat} {zs : List Int} (h : Byts w a len cap zs) (hg : w.grownBy w' (some g)) (hd : Head w g) : Byts w' a len cap zs := by
  refine ⟨h.hlen, h.hcap, h.hmax, fun hp => ?_, h.word⟩
  obtain ⟨b, off, ha, hc⟩ := h.cells hp
  refine ⟨b, off, ha, fun i hi => ?_⟩
  have hne : b ≠ g := by
    rintro rfl
    obtain ⟨cur, T, h1, h2⟩ := hd
    have := hc i hi
    rw [cell_of_row w b (off + i) _ _ _ h1] at this
    exact (h2 _ _).1 this
  rw [← hc i hi]
  exact World.cell?_of_block (w := w) (hg.block b (World.block_lt_of_cell? w _ (hc i hi)) (fun e => hne (by simpa using e)))

theorem Nums.head {w w' : World} {a : Option Addr} {len cap g : Nat} {zs : List Int} (h : Nums w a len cap zs) (hg : w.grownBy w' (some g)) (hd : Head w g) : Nums w' a len cap zs := by
  refine h.grown hg (fun hp => ?_)
  rintro x rfl e
  obtain ⟨b, off, ha, hc⟩ := h.cells hp
  cases ha
  simp at e
  subst e
  obtain ⟨cur, T, h1, h2⟩ := hd
  have := hc 0 hp
  rw [cell_of_row w b (off + 0) _ _ _ h1] at this
  exact (h2 _ _).2 this

/-- At block g lies a tape whose bytes that are not used are L. -/
def TapeAt (w : World) (g : Nat) (L : List Int) : Prop := L.length ≤ 65536 ∧ ∃ a l c, w.heap[g]? = some (.cells #[.slice a l c] 53 (0, 0)) ∧ Byts w a l c L

theorem TapeAt.lt {w : World} {g : Nat} {L : List Int} (h : TapeAt w g L) : g < w.heap.size := by
  obtain ⟨_, a, l, c, h1, _⟩ := h
  exact (Array.getElem?_eq_some_iff.1 h1).1
theorem TapeAt.head {w : World} {g : Nat} {L : List Int} (h : TapeAt w g L) : Head w g := by
  obtain ⟨_, a, l, c, h1, _⟩ := h
  refine ⟨_, _, h1, fun j x => ?_⟩
  match j with
  | 0 => simp
  | j + 1 => simp
theorem TapeAt.below {w w' : World} {g : Nat} {L : List Int} (h : TapeAt w g L) (hb : Below w.heap.size w w') : TapeAt w' g L := by
  have hl := h.lt
  obtain ⟨h0, a, l, c, h1, h2⟩ := h
  exact ⟨h0, a, l, c, (hb.block g hl).trans h1, h2.below hb⟩
theorem TapeAt.apart {w w' : World} {g k : Nat} {L : List Int} (h : TapeAt w g L) (hg : w.grownBy w' (some k)) (hk : Head w k) (hne : g ≠ k) : TapeAt w' g L := by
  have hl := h.lt
  obtain ⟨h0, a, l, c, h1, h2⟩ := h
  exact ⟨h0, a, l, c, (hg.block g hl (fun e => hne (by simpa using e))).trans h1, h2.head hg hk⟩

set_option maxHeartbeats 400000 in
theorem cloneB_any (a : Option Addr) (len cap : Nat) (zs : List Int) (w : World) (h : Byts w a len cap zs) (hn : len ≤ 100000) :
    Calls Tryz.prog 16 #[.slice a len cap] w fun e w' => ∃ a' n cap', e = .returned (.slice a' n cap') ∧ Byts w' a' n cap' zs ∧ Below w.heap.size w w' := by
  have hd := h.digs
  cases a with
  | none =>
    have hm : len = 0 := by
      rcases Nat.eq_zero_or_pos len with h0 | h0
      · exact h0
      · obtain ⟨b, off, e, _⟩ := h.cells h0; cases e
    subst hm
    have e : zs = [] := List.eq_nil_of_length_eq_zero h.hlen
    subst e
    have heq := fun wx => Lib.run_eql_slice_nil (P := Tryz.prog) wx 26 5 none 0 cap 0 0 Tryz.underlying26
    go_enter Tryz.func16, Tryz.ntmps16
    go_wp2
    go_ret
    exact ⟨none, 0, 0, rfl, Byts.nil _, Below.refl _ _⟩
  | some x =>
    have heq := fun wx => Lib.run_eql_slice_nil (P := Tryz.prog) wx 26 5 (some x) len cap 0 0 Tryz.underlying26
    go_enter Tryz.func16, Tryz.ntmps16
    have hown := BOwn.empty w
    have hb0 := (Below.refl w.heap.size w).alloc (Nat.le_refl _) (.cells #[] 5)
    have h1 := h.below hb0
    go_wp2_with (at_builtin; refine wpList_appBN _ rfl _ _ 26 rfl Tryz.underlying26 w.heap.size _ [] rfl hown (some x) len cap zs rfl h1 ?_ ?_ w ?_ hb0 ?_)
    · intro e; cases e
    · simp; omega
    · simp
    · intro v' w2 hown1 hb1 _
      obtain ⟨a1, n1, cap1, rfl, hn1, -, -⟩ := hown1.fresh hd
      clear hown1 hown h1 hb0
      go_wp2
      go_ret
      exact ⟨_, _, _, rfl, hn1, hb1⟩

theorem TapeAt.made {w : World} {a : Option Addr} {l c : Nat} {L : List Int} (h : Byts w a l c L) (hl : L.length ≤ 65536) : TapeAt (w.alloc (.cells #[.slice a l c] 53)) w.heap.size L :=
  ⟨hl, a, l, c, heap_alloc_new _ _, h.below ((Below.refl _ _).alloc (Nat.le_refl _) _)⟩
/-- What New tells of so many bytes. -/
def NewT (At : World → Nat → List Int → Prop) (w : World) (len : Nat) (bs : List Int) (e : Ending) (w' : World) : Prop :=
  Below w.heap.size w w' ∧ ((65536 < len ∧ e = .returned (.tuple #[.pointer none, .int .i64 1])) ∨ (len ≤ 65536 ∧ ∃ g, e = .returned (.tuple #[.pointer (some ⟨g, 0, none⟩), .int .i64 0]) ∧ At w' g bs ∧ w.heap.size ≤ g))

set_option maxHeartbeats 400000 in
theorem tnew_any (a : Option Addr) (len cap : Nat) (bs : List Int) (w : World) (h : Byts w a len cap bs) :
    Calls Tryz.prog 5 #[.slice a len cap] w fun e w' => NewT TapeAt w len bs e w' := by
  have hm := h.hmax
  have hc := h.hcap
  unfold maxLen at hm
  by_cases hl : len ≤ 65536
  · have hd : decide ((65536 : Int) < (len : Int)) = false := by simp; omega
    have HL : Hid (bs.length ≤ 65536) := by have := h.hlen; show _ ≤ _; omega
    go_enter Tryz.func5, Tryz.ntmps5
    go_wp2_with fail
    refine (cloneB_any _ _ _ _ _ h (by omega)).mono ?_
    rintro e w1 ⟨ka, kn, kc, rfl, hk, hb⟩
    go_wp2
    go_ret2
    exact ⟨hb.alloc hb.size _, .inr ⟨hl, _, rfl, TapeAt.made hk HL.out, hb.size⟩⟩
  · have hd : (65536 : Int) < (len : Int) := by omega
    go_enter Tryz.func5, Tryz.ntmps5
    go_wp2
    go_ret2
    exact ⟨Below.refl _ _, .inl ⟨by omega, rfl⟩⟩

end Go.Proofs.YtambpcgdaogojabGreat

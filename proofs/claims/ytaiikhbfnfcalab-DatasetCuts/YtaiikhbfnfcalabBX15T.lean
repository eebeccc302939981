/-
  The program's tables: rows of whole numbers that are made; slices.Clone, binsAt, placesOf.
  The program's Take, its statements. Written by mk/x15g.py.
  The program's Take, its loop's statements. Written by mk/x15g.py.
  The program's Take, its loop. Written by mk/x15g.py.
  The program's Take, the whole. Written by mk/x15g.py.
-/
import Derived.Test.YtaiikhbfnfcalabBX15A
import Derived.Test.YtaiikhbfnfcalabRef15S
import Derived.Test.YtaiikhbfnfcalabR15T
import Derived.Deep.RegionHeld3
namespace Go.Proofs.Ytaiikhbfnfcalab
open Go.RowKit

/-- Block g holds these whole numbers at its head, and may be written. -/
def IBlk (w : World) (g : Nat) (L : List Int) : Prop := ∃ cur : Array Value, w.heap[g]? = some (.cells cur 3 (0, 0)) ∧ cur.toList.take L.length = L.map (Value.int .i64)
theorem IBlk.cell {w : World} {g : Nat} {L : List Int} (h : IBlk w g L) {j : Nat} (hj : j < L.length) : w.cell? ⟨g, j, none⟩ = some (.int .i64 (L.getD j 0)) := by
  obtain ⟨cur, h1, h2⟩ := h
  rw [cell_of_row w g j _ _ _ h1]
  have h3 : (cur.toList.take L.length)[j]? = (L.map (Value.int .i64))[j]? := by rw [h2]
  rw [List.getElem?_take, if_pos hj] at h3
  rw [← Array.getElem?_toList, h3]
  simp [List.getD, hj]
theorem IBlk.frozen {w : World} {g : Nat} {L : List Int} (h : IBlk w g L) (j : Nat) : w.frozen? ⟨g, j, none⟩ = false := by
  obtain ⟨cur, h1, _⟩ := h
  exact frozen_of_row w g j _ _ h1
theorem IBlk.lt {w : World} {g : Nat} {L : List Int} (h : IBlk w g L) : g < w.heap.size := by
  obtain ⟨cur, h1, _⟩ := h
  exact (Array.getElem?_eq_some_iff.1 h1).1
theorem IBlk.set {w : World} {g : Nat} {L : List Int} (h : IBlk w g L) (j : Nat) (x : Int) : IBlk (w.setCell ⟨g, j, none⟩ (.int .i64 x)) g (L.set j x) := by
  obtain ⟨cur, h1, h2⟩ := h
  refine ⟨cur.setIfInBounds j (.int .i64 x), heap_setCell_same w g j _ _ (.int .i64 x) h1, ?_⟩
  rw [Array.toList_setIfInBounds, List.length_set, List.take_set, h2, List.map_set]
theorem IBlk.lsts {w : World} {g n : Nat} {L : List Int} (h : IBlk w g L) (hd : ∀ x, x ∈ L → -9223372036854775808 ≤ x ∧ x < 9223372036854775808) (hl : L.length = n) (hn : n ≤ 1000000) : Lsts w (some ⟨g, 0, none⟩) n n L :=
  ⟨hl, Nat.le_refl _, by unfold maxLen; omega, fun _ => ⟨g, 0, rfl, fun i hi => by rw [Nat.zero_add]; exact h.cell (by omega)⟩, hd⟩
theorem wpList_mkI (w : World) {ops : Array Oper} {rest : List Oper} {o : Oper} {a : Act} {Q : Exit → Act → World → Prop}
    (hg : o.guard = none) (l c : Operand) (t : TypeId) (hop : o.op = Op.makeSlice t l c) (ht : Try.prog.underlying t = some (.slice 3))
    (kl kc : IntKind) (L C : Int) (n : Nat) (hl : a.eval l = .int kl L) (hc : a.eval c = .int kc C) (hL : L = (n : Int)) (hC : C = (n : Int)) (hn : n ≤ 1000000)
    (hK : ∀ w', IBlk w' w.heap.size (noughts n) → Below w.heap.size w w' → w'.heap.size = w.heap.size + 1 → wpList Try.prog ops Q rest (a.put o.dst (.slice (some ⟨w.heap.size, 0, none⟩) n n)) w') :
    wpList Try.prog ops Q (o :: rest) a w := by
  obtain ⟨i0, hi, hz0, hz1, hz2⟩ := info_parts Try.infoI
  refine wpList_plain hg fun K hK' => ?_
  subst hL
  subst hC
  have hrun := run_make (P := Try.prog) w t 3 i0 (.int .i64 0) ht hi hz0 kl kc n n (by omega) (Int.le_refl _) (by rw [hz2]; omega) (by omega)
  simp only [Int.toNat_natCast] at hrun
  unfold Oper.wp
  simp [execOp, hop, hl, hc, hrun, Result.andThen]
  refine hK' _ _ (hK _ ?_ ((Below.refl _ _).alloc (Nat.le_refl _) _) (by simp))
  have e : (madeCells (Value.int .i64 0).cells (n * i0.size)) = ((List.replicate n (0 : Int)).map (Value.int .i64)).toArray := by
    apply Array.toList_inj.1
    have := toList_madeCells_one (.int .i64 0) n
    rw [hz1, Nat.mul_one]
    simpa [Value.cells] using this
  refine ⟨_, heap_alloc_new w _, ?_⟩
  rw [e]
  simp [noughts]
theorem getD_set15 {us : List Int} {k j : Nat} {x : Int} (hk : k < us.length) : (us.set k x).getD j 0 = if j = k then x else us.getD j 0 := by
  unfold List.getD
  rw [List.getElem?_set]
  by_cases c : k = j
  · subst c
    simp [hk]
  · rw [if_neg c, if_neg (fun e => c e.symm)]
theorem eq_all15 {xs ys : List Int} (hl : xs.length = ys.length) (h : ∀ j, j < xs.length → xs.getD j 0 = ys.getD j 0) : xs = ys := by
  refine List.ext_getElem hl (fun i h1 h2 => ?_)
  have := h i h1
  simpa [List.getD, h1, h2] using this
/-- A row of whole numbers that is new. -/
def NewT15 (xs : List Int) (w : World) (e : Ending) (w' : World) : Prop := ∃ a l c, e = .returned (.slice a l c) ∧ Lsts w' a l c xs ∧ (∀ ad, a = some ad → w.heap.size ≤ ad.block ∧ ad.block < w'.heap.size) ∧ Below w.heap.size w w'
theorem wpList_appZ (w : World) {ops : Array Oper} {rest : List Oper} {o : Oper} {a : Act} {Q : Exit → Act → World → Prop} (hgd : o.guard = none) (s x : Operand)
    (ho : o.op = .call { callee := .builtin .append, args := #[s, x], argTypes := #[22, 22] })
    (b : Nat) (hs : a.eval s = .slice (some ⟨b, 0, none⟩) 0 0) (p : Option Addr) (l c : Nat) (ys : List Int) (hx : a.eval x = .slice p l c) (hL : Lsts w p l c ys) (hl : l < 1000000)
    (h : ∀ a' c' w', Lsts w' a' l c' ys → Below w.heap.size w w' → (∀ ad, a' = some ad → ad.block = b ∨ w.heap.size ≤ ad.block) → (∀ ad, a' = some ad → ad.block = b ∨ ad.block < w'.heap.size) → wpList Try.prog ops Q rest (a.put o.dst (.slice a' l c')) w') : wpList Try.prog ops Q (o :: rest) a w := by
  obtain ⟨a', c', w', hr, h2, h3, h4, h5⟩ := run_appZ w o.type b hL hl
  exact Lib.wpList_append_run w hgd s x _ _ ho _ _ hs hx _ w' hr (h a' c' w' h2 h3 h4 h5)
/-- A column's numbers at some places. -/
def atPl15 (L : List Int) (ps : List Nat) : List Int := ps.map fun k => L.getD k 0
theorem run_makeMapI (n : Int) (w : World) : (Instr.makeMap 49 (some (.int .i64 n))).run Try.prog w = .ok (.map (some w.heap.size)) (w.alloc (.map #[] 0)) := by
  simp [Instr.makeMap, run_underlying Try.underlying49, asInt, asIntOf, Result.andThen]
theorem not_take15 {ys : List Int} (h : ys.Nodup) {k : Nat} (hk : k < ys.length) : ys.getD k 0 ∉ ys.take k := by
  intro q
  obtain ⟨j, hj, e⟩ := List.getElem_of_mem q
  rw [List.length_take] at hj
  rw [List.getElem_take] at e
  have := (List.pairwise_iff_getElem.1 h) j k (by omega) hk (by omega)
  apply this
  rw [e]
  simp [List.getD, List.getElem?_eq_getElem hk]
/-- The places at which some ids stand. -/
def PlcT15 (xs ys : List Int) (w : World) (e : Ending) (w' : World) : Prop := ∃ a l c b, e = .returned (.tuple #[.slice a l c, .bool b]) ∧ (b = true ↔ ∀ x, x ∈ xs → x ∈ ys) ∧ (b = true → Lsts w' a l c (ints (xs.map (idx ys)))) ∧ Below w.heap.size w w'
end Go.Proofs.Ytaiikhbfnfcalab

namespace Go.Proofs.Ytaiikhbfnfcalab
open Go.RowKit

end Go.Proofs.Ytaiikhbfnfcalab

namespace Go.Proofs.Ytaiikhbfnfcalab
open Go.RowKit

/-- A call, as one step of a region that draws. -/
theorem step_call15 {P : Program} {ops : Array Oper} {o : Oper} {a : Act} {w : World} {K : Act → World → Prop} {Q : Exit → Act → World → Prop} {E : Prop} {post : Ending → World → Prop} (hgd : o.guard = none) (f : FuncId) (args : Array Value) (hrun : (execOp a.eval o).run P w = .ok (.enter f args) w) (hc : Calls P f args w post) (h : ∀ e w', post e w' → ∃ v, e = .returned v ∧ K (a.put o.dst v) w') : if Region.wanted o (yielded ops a.tmps) = true then Oper.wp P o a w K Q else E := by
  rw [if_pos (by simp [Region.wanted, hgd])]
  unfold Oper.wp
  rw [hrun]
  refine Calls.mono hc ?_
  intro e w' q
  obtain ⟨v, rfl, k⟩ := h e w' q
  exact k
end Go.Proofs.Ytaiikhbfnfcalab

namespace Go.Proofs.Ytaiikhbfnfcalab
open Go.RowKit

end Go.Proofs.Ytaiikhbfnfcalab

namespace Go.Proofs.Ytaiikhbfnfcalab
open Go.RowKit

end Go.Proofs.Ytaiikhbfnfcalab

/-
  Rows of sums, and of truths, of the call's own. Written by mk/p17t.py.
  GainTurned: its statements. Written by mk/p17t.py.
  GainTurned: its loops, its walk. Written by mk/p17t.py.
-/
import Derived.Test.YtchmlfjjgehbkaaD17Rows
import Derived.Maps.AppendAt
import Derived.Test.YtchmlfjjgehbkaaR17F
import Derived.Test.YtchmlfjjgehbkaaPieces
import Derived.Deep.RegionLaw
namespace Go.Proofs.Ytchmlfjjgehbkaa
open Go.RowKit

/-- The cells of sums. -/
def flat17 : List (Int × Int) → List Value
  | [] => []
  | s :: r => .int .i64 s.1 :: .int .i64 s.2 :: flat17 r
theorem flat17_length : ∀ ss : List (Int × Int), (flat17 ss).length = ss.length * 2
  | [] => rfl
  | s :: r => by simp [flat17, flat17_length r]; omega
theorem flat17_append : ∀ ss tt : List (Int × Int), flat17 (ss ++ tt) = flat17 ss ++ flat17 tt
  | [], _ => rfl
  | s :: r, tt => by simp [flat17, flat17_append r tt]
theorem flat17_at : ∀ (ss : List (Int × Int)) (i : Nat), i < ss.length → (flat17 ss)[i * 2]? = some (.int .i64 (ss.getD i (0, 0)).1) ∧ (flat17 ss)[i * 2 + 1]? = some (.int .i64 (ss.getD i (0, 0)).2)
  | [], i, h => absurd h (Nat.not_lt_zero i)
  | s :: r, 0, _ => ⟨rfl, rfl⟩
  | s :: r, i + 1, h => by
    have := flat17_at r i (by simpa using h)
    rw [show (i + 1) * 2 = i * 2 + 1 + 1 by omega]
    simpa [flat17] using this
theorem flat17_one (ss : List (Int × Int)) (u : Value) (h : u ∈ flat17 ss) : u.oneCell' = true := by
  induction ss with
  | nil => cases h
  | cons s r ih =>
    simp only [flat17, List.mem_cons] at h
    rcases h with rfl | rfl | h
    · rfl
    · rfl
    · exact ih h
/-- A row of sums of the call's own. -/
def SOwn (w : World) (base : Nat) (v : Value) (ss : List (Int × Int)) : Prop := w.ownsRow base 23 2 v ss.length (flat17 ss)
theorem SOwn.empty (w : World) : SOwn (w.alloc (.cells #[] 23)) w.heap.size (.slice (some ⟨w.heap.size, 0, none⟩) 0 0) [] := ⟨rfl, .inr ⟨w.heap.size, 0, #[], rfl, Nat.le_refl _, heap_alloc_new w _, Nat.le_refl _, Nat.zero_le _, rfl, rfl⟩⟩
theorem SOwn.drew {w : World} {base : Nat} {v : Value} {ss : List (Int × Int)} (h : SOwn w base v ss) : SOwn w.drew base v ss := h
theorem SOwn.low {w w' : World} {base : Nat} {v : Value} {xs : List (Int × Int)} (h : SOwn w base v xs) (hg : w.grownBy w' v.ownBlock) (hb : base ≤ w.heap.size) : Below base w w' :=
  ⟨hg.os, hg.tape, hg.output, hg.size, fun k hk => hg.block k (Nat.lt_of_lt_of_le hk hb) (fun e => by have := (World.ownsRow.lt h k e.symm).1; omega)⟩
theorem SOwn.rows {w : World} {base : Nat} {v : Value} {ss : List (Int × Int)} (h : SOwn w base v ss) (hw : ∀ s, s ∈ ss → (-9223372036854775808 ≤ s.1 ∧ s.1 < 9223372036854775808) ∧ (-9223372036854775808 ≤ s.2 ∧ s.2 < 9223372036854775808)) : ∃ a c, v = .slice a ss.length c ∧ SRows w a ss.length c ss := by
  have h0 := h
  obtain ⟨h1, h2⟩ := h
  rcases h2 with ⟨rfl, hn⟩ | ⟨g, cap, cur, rfl, hb, hg, hnc, hcm, hcs, htk⟩
  · have e : ss = [] := List.eq_nil_of_length_eq_zero hn
    subst e
    exact ⟨none, 0, rfl, SRows.nil _⟩
  · refine ⟨some ⟨g, 0, none⟩, cap, rfl, rfl, hnc, hcm, fun _ => ⟨g, 0, rfl, fun i hi => ?_⟩, hw⟩
    obtain ⟨f1, f2⟩ := flat17_at ss i hi
    rw [Nat.zero_add, World.ownsRow.cellAt h0 _ (by omega), World.ownsRow.cellAt h0 _ (by omega)]
    exact ⟨f1, f2⟩
theorem Try.infoS17 : (Try.prog.info? 23).map (fun i => (i.zero, i.size, i.bytes)) = some (some (.agg #[.int .i64 0, .int .i64 0]), 2, 16) := by kernel_rfl
theorem run_appSs (w : World) (ty : TypeId) {base : Nat} {v : Value} {xs : List (Int × Int)} (h : SOwn w base v xs) {b off l c : Nat} {ys : List (Int × Int)} (hlen : ys.length = l) (hc : ∀ i, i < l → w.cell? ⟨b, off + i * 2, none⟩ = some (.int .i64 (ys.getD i (0, 0)).1) ∧ w.cell? ⟨b, off + i * 2 + 1, none⟩ = some (.int .i64 (ys.getD i (0, 0)).2)) (hn : xs.length + l < 1000000) (hbase : base ≤ w.heap.size) :
    ∃ v' w', (Builtin.append_ #[39, 39] ty #[v, .slice (some ⟨b, off, none⟩) l c]).run Try.prog w = .ok v' w' ∧ SOwn w' base v' (xs ++ ys) ∧ w.grownBy w' v.ownBlock := by
  obtain ⟨i0, hi, hz0, hz1, hz2⟩ := info_parts Try.infoS17
  obtain ⟨v', w', hr, h2, h3, _⟩ := run_append_own_at (P := Try.prog) w base 39 ty 23 i0 (.agg #[.int .i64 0, .int .i64 0]) 2 16 Try.underlying39 hi hz0 hz1 hz2 rfl (by decide) v xs.length (flat17 xs) h ⟨b, off, none⟩ l c (flat17 ys) (by rw [flat17_length, hlen]) (fun j u hj => by
    have hjl : j < l * 2 := by have := (List.getElem?_eq_some_iff.1 hj).1; rw [flat17_length] at this; omega
    obtain ⟨f1, f2⟩ := flat17_at ys (j / 2) (by omega)
    obtain ⟨c1, c2⟩ := hc (j / 2) (by omega)
    rw [Addr.add_lit]
    rcases Nat.mod_two_eq_zero_or_one j with e | e
    · have e2 : j = j / 2 * 2 := by omega
      rw [e2] at hj ⊢
      rw [c1, ← hj]
      exact f1.symm
    · have e2 : j = j / 2 * 2 + 1 := by omega
      rw [e2] at hj ⊢
      rw [← Nat.add_assoc, c2, ← hj]
      exact f2.symm) (fun u hu => flat17_one ys u hu) (by unfold maxLen; omega) (by omega) hbase
  refine ⟨v', w', hr, ?_, h3⟩
  unfold SOwn
  rw [List.length_append, flat17_append, hlen]
  exact h2
theorem step_appSs (w : World) {ops : Array Oper} {o : Oper} {a : Act} {K : Act → World → Prop} {Q : Exit → Act → World → Prop} {E : Prop} (hgd : o.guard = none) (s x : Operand)
    (ho : o.op = .call { callee := .builtin .append, args := #[s, x], argTypes := #[39, 39] })
    (base : Nat) (v : Value) (xs : List (Int × Int)) (hs : a.eval s = v) (hown : SOwn w base v xs) (b off l c : Nat) (ys : List (Int × Int)) (hx : a.eval x = .slice (some ⟨b, off, none⟩) l c) (hlen : ys.length = l) (hc : ∀ i, i < l → w.cell? ⟨b, off + i * 2, none⟩ = some (.int .i64 (ys.getD i (0, 0)).1) ∧ w.cell? ⟨b, off + i * 2 + 1, none⟩ = some (.int .i64 (ys.getD i (0, 0)).2)) (hn : xs.length + l < 1000000) (hbase : base ≤ w.heap.size)
    (h : ∀ v' w', SOwn w' base v' (xs ++ ys) → w.grownBy w' v.ownBlock → K (a.put o.dst v') w') : if Region.wanted o (yielded ops a.tmps) = true then Oper.wp Try.prog o a w K Q else E := by
  rw [if_pos (by simp [Region.wanted, hgd])]
  obtain ⟨v', w', hr, h2, h3⟩ := run_appSs w o.type hown hlen hc (c := c) hn hbase
  unfold Oper.wp
  simp [execOp, ho, resolve, invoke, builtin, hs, hx, hr, Result.andThen]
  exact h v' w' h2 h3
/-- What lies there between the two appends. -/
def Half17 (W w : World) (v : Value) (xs : List (Int × Int)) : Prop := SOwn w W.heap.size v xs ∧ Below W.heap.size W w ∧ W.heap.size ≤ w.heap.size
/-- Block g holds these truths at its head, and may be written. -/
def BBk (w : World) (g : Nat) (L : List Bool) : Prop := ∃ cur : Array Value, w.heap[g]? = some (.cells cur 4 (0, 0)) ∧ cur.toList.take L.length = L.map Value.bool
theorem BBk.cell {w : World} {g : Nat} {L : List Bool} (h : BBk w g L) {j : Nat} (hj : j < L.length) : w.cell? ⟨g, j, none⟩ = some (.bool (L.getD j false)) := by
  obtain ⟨cur, h1, h2⟩ := h
  rw [cell_of_row w g j _ _ _ h1]
  have h3 : (cur.toList.take L.length)[j]? = (L.map Value.bool)[j]? := by rw [h2]
  rw [List.getElem?_take, if_pos hj] at h3
  rw [← Array.getElem?_toList, h3]
  simp [List.getD, hj]
theorem BBk.frozen {w : World} {g : Nat} {L : List Bool} (h : BBk w g L) (j : Nat) : w.frozen? ⟨g, j, none⟩ = false := by
  obtain ⟨cur, h1, _⟩ := h
  exact frozen_of_row w g j _ _ h1
theorem BBk.lt {w : World} {g : Nat} {L : List Bool} (h : BBk w g L) : g < w.heap.size := by
  obtain ⟨cur, h1, _⟩ := h
  exact (Array.getElem?_eq_some_iff.1 h1).1
theorem BBk.set {w : World} {g : Nat} {L : List Bool} (h : BBk w g L) (j : Nat) (x : Bool) : BBk (w.setCell ⟨g, j, none⟩ (.bool x)) g (L.set j x) := by
  obtain ⟨cur, h1, h2⟩ := h
  refine ⟨cur.setIfInBounds j (.bool x), heap_setCell_same w g j _ _ (.bool x) h1, ?_⟩
  rw [Array.toList_setIfInBounds, List.length_set, List.take_set, h2, List.map_set]
theorem Try.infoBo17 : (Try.prog.info? 4).map (fun i => (i.zero, i.size, i.bytes)) = some (some (.bool false), 1, 1) := by kernel_rfl
theorem wpList_mkBo17 (w : World) {ops : Array Oper} {rest : List Oper} {o : Oper} {a : Act} {Q : Exit → Act → World → Prop}
    (hg : o.guard = none) (l c : Operand) (t : TypeId) (hop : o.op = Op.makeSlice t l c) (ht : Try.prog.underlying t = some (.slice 4))
    (kl kc : IntKind) (L C : Int) (n : Nat) (hl : a.eval l = .int kl L) (hc : a.eval c = .int kc C) (hL : L = (n : Int)) (hC : C = (n : Int)) (hn : n ≤ 1000000)
    (hK : ∀ w', BBk w' w.heap.size (List.replicate n false) → Below w.heap.size w w' → w'.heap.size = w.heap.size + 1 → wpList Try.prog ops Q rest (a.put o.dst (.slice (some ⟨w.heap.size, 0, none⟩) n n)) w') :
    wpList Try.prog ops Q (o :: rest) a w := by
  obtain ⟨i0, hi, hz0, hz1, hz2⟩ := info_parts Try.infoBo17
  refine wpList_plain hg fun K hK' => ?_
  subst hL
  subst hC
  have hrun := run_make (P := Try.prog) w t 4 i0 (.bool false) ht hi hz0 kl kc n n (by omega) (Int.le_refl _) (by rw [hz2]; omega) (by omega)
  simp only [Int.toNat_natCast] at hrun
  unfold Oper.wp
  simp [execOp, hop, hl, hc, hrun, Result.andThen]
  refine hK' _ _ (hK _ ?_ ((Below.refl _ _).alloc (Nat.le_refl _) _) (by simp))
  have e : (madeCells (Value.bool false).cells (n * i0.size)) = ((List.replicate n false).map Value.bool).toArray := by
    apply Array.toList_inj.1
    have := toList_madeCells_one (.bool false) n
    rw [hz1, Nat.mul_one]
    simpa [Value.cells] using this
  refine ⟨_, heap_alloc_new w _, ?_⟩
  rw [e]
  simp
theorem below_setB {w w' : World} {s g : Nat} (h : Below s w w') (hg : s ≤ g) (j : Nat) (x : Value) : Below s w (w'.setCell ⟨g, j, none⟩ x) := h.setCell (p := ⟨g, j, none⟩) hg x
end Go.Proofs.Ytchmlfjjgehbkaa

namespace Go.Proofs.Ytchmlfjjgehbkaa
open Go.RowKit

set_option maxRecDepth 100000 in
set_option maxHeartbeats 12800000 in
theorem tu_p0 {x2 x3 x4 x5 x6 x7 x8 x9 x10 x11 x12 x13 x14 x15 x16 x17 x18 x19 x20 x21 x22 x23 x24 x25 x26 x27 x28 x29 x30 x31 x32 x33 x34 x35 x36 x37 x38 x39 x40 x41 x42 x43 x44 x45 x46 x47 x48 x49 x50 x51 x52 x53 x54 x55 x56 x57 x58 x59 x60 x61 x62 x63 x64 x65 x66 x67 x68 x69 x70 x71 x72 x73 x74 x75 x76 x77 x78 x79 x80 x81 x82 x83 x84 x85 x86 x87 x88 x89 x90 x91 x92 x93 x94 x95 x96 x97 x98 x99 x100 x101 x102 x103 x104 x105 x106 x107 x108 x109 x110 x111 x112 x113 x114 x115 x116 x117 x118 x119 x120 x121 x122 x123 x124 x125 x126 x127 x128 x129 x130 x131 x132 : Value} {Q : Exit → Act → World → Prop} {W : World} {x y A B : Int} 
    (hN : ∀ (g h : Nat) (wx : World) , (wx.cell? ⟨g, 0, none⟩ = some (.int .i64 x) ∧ wx.cell? ⟨g, 1, none⟩ = some (.int .i64 y)) → (wx.cell? ⟨h, 0, none⟩ = some (.int .i64 A) ∧ wx.cell? ⟨h, 1, none⟩ = some (.int .i64 B)) → Below W.heap.size W wx → Q .normal ⟨#[.agg #[.int .i64 (x), .int .i64 (y)], .agg #[.int .i64 (A), .int .i64 (B)], x2, .pointer (some ⟨g, 0, none⟩), .pointer (some ⟨h, 0, none⟩), x5, .bool false, x7, x8, x9, x10, x11, x12, x13, x14, x15, x16, x17, x18, x19, x20, x21, x22, x23, x24, x25, x26, x27, x28, x29, x30, x31, x32, x33, x34, x35, x36, x37, x38, x39, x40, x41, x42, x43, x44, x45, x46, x47, x48, x49, x50, x51, x52, x53, x54, x55, x56, x57, x58, x59, x60, x61, x62, x63, x64, x65, x66, x67, x68, x69, x70, x71, x72, x73, x74, x75, x76, x77, x78, x79, x80, x81, x82, x83, x84, x85, x86, x87, x88, x89, x90, x91, x92, x93, x94, x95, x96, x97, x98, x99, x100, x101, x102, x103, x104, x105, x106, x107, x108, x109, x110, x111, x112, x113, x114, x115, x116, x117, x118, x119, x120, x121, x122, x123, x124, x125, x126, x127, x128, x129, x130, x131, x132], []⟩ wx) :
    Code.wp Try.prog ((Try.f5.body.bind (pcAt 0)).getD .skip) Q ⟨#[.agg #[.int .i64 (x), .int .i64 (y)], .agg #[.int .i64 (A), .int .i64 (B)], x2, x3, x4, x5, x6, x7, x8, x9, x10, x11, x12, x13, x14, x15, x16, x17, x18, x19, x20, x21, x22, x23, x24, x25, x26, x27, x28, x29, x30, x31, x32, x33, x34, x35, x36, x37, x38, x39, x40, x41, x42, x43, x44, x45, x46, x47, x48, x49, x50, x51, x52, x53, x54, x55, x56, x57, x58, x59, x60, x61, x62, x63, x64, x65, x66, x67, x68, x69, x70, x71, x72, x73, x74, x75, x76, x77, x78, x79, x80, x81, x82, x83, x84, x85, x86, x87, x88, x89, x90, x91, x92, x93, x94, x95, x96, x97, x98, x99, x100, x101, x102, x103, x104, x105, x106, x107, x108, x109, x110, x111, x112, x113, x114, x115, x116, x117, x118, x119, x120, x121, x122, x123, x124, x125, x126, x127, x128, x129, x130, x131, x132], []⟩ W := by
  conv => arg 2; whnf
  have HN : Hid (∀ (g h : Nat) (wx : World) , (wx.cell? ⟨g, 0, none⟩ = some (.int .i64 x) ∧ wx.cell? ⟨g, 1, none⟩ = some (.int .i64 y)) → (wx.cell? ⟨h, 0, none⟩ = some (.int .i64 A) ∧ wx.cell? ⟨h, 1, none⟩ = some (.int .i64 B)) → Below W.heap.size W wx → Q .normal ⟨#[.agg #[.int .i64 (x), .int .i64 (y)], .agg #[.int .i64 (A), .int .i64 (B)], x2, .pointer (some ⟨g, 0, none⟩), .pointer (some ⟨h, 0, none⟩), x5, .bool false, x7, x8, x9, x10, x11, x12, x13, x14, x15, x16, x17, x18, x19, x20, x21, x22, x23, x24, x25, x26, x27, x28, x29, x30, x31, x32, x33, x34, x35, x36, x37, x38, x39, x40, x41, x42, x43, x44, x45, x46, x47, x48, x49, x50, x51, x52, x53, x54, x55, x56, x57, x58, x59, x60, x61, x62, x63, x64, x65, x66, x67, x68, x69, x70, x71, x72, x73, x74, x75, x76, x77, x78, x79, x80, x81, x82, x83, x84, x85, x86, x87, x88, x89, x90, x91, x92, x93, x94, x95, x96, x97, x98, x99, x100, x101, x102, x103, x104, x105, x106, x107, x108, x109, x110, x111, x112, x113, x114, x115, x116, x117, x118, x119, x120, x121, x122, x123, x124, x125, x126, x127, x128, x129, x130, x131, x132], []⟩ wx) := hN
  clear hN
  have v1 := balloc W (.cells #[.int .i64 x, .int .i64 y] 38)
  have v2 := balloc (W.alloc (.cells #[.int .i64 x, .int .i64 y] 38)) (.cells #[.int .i64 A, .int .i64 B] 23)
  have hR := heap_alloc_new W (.cells #[.int .i64 x, .int .i64 y] 38)
  have HB : Hid ((((W.alloc (.cells #[.int .i64 x, .int .i64 y] 38)).alloc (.cells #[.int .i64 A, .int .i64 B] 23)).cell? ⟨W.heap.size, 0, none⟩ = some (.int .i64 x) ∧ ((W.alloc (.cells #[.int .i64 x, .int .i64 y] 38)).alloc (.cells #[.int .i64 A, .int .i64 B] 23)).cell? ⟨W.heap.size, 1, none⟩ = some (.int .i64 y)) ∧ (((W.alloc (.cells #[.int .i64 x, .int .i64 y] 38)).alloc (.cells #[.int .i64 A, .int .i64 B] 23)).cell? ⟨(W.alloc (.cells #[.int .i64 x, .int .i64 y] 38)).heap.size, 0, none⟩ = some (.int .i64 A) ∧ ((W.alloc (.cells #[.int .i64 x, .int .i64 y] 38)).alloc (.cells #[.int .i64 A, .int .i64 B] 23)).cell? ⟨(W.alloc (.cells #[.int .i64 x, .int .i64 y] 38)).heap.size, 1, none⟩ = some (.int .i64 B)) ∧ Below W.heap.size W ((W.alloc (.cells #[.int .i64 x, .int .i64 y] 38)).alloc (.cells #[.int .i64 A, .int .i64 B] 23))) := by
    refine ⟨⟨bkeep v2 (by rw [cell_of_row _ _ _ _ _ _ hR]; rfl) rfl, bkeep v2 (by rw [cell_of_row _ _ _ _ _ _ hR]; rfl) rfl⟩, ?_, bthen v1 v2⟩
    exact SVar.cell (heap_alloc_new _ _)
  clear v1 v2 hR
  go_wp2_with fail
  first
    | exact HN.out _ _ _  HB.out.1 HB.out.2.1 HB.out.2.2
    | (have HS := HB; rw [show (W.alloc (.cells #[.int .i64 x, .int .i64 y] 38)).heap.size = W.heap.size + 1 by simp] at HS; exact HN.out _ _ _  HS.out.1 HS.out.2.1 HS.out.2.2)

set_option maxRecDepth 100000 in
set_option maxHeartbeats 12800000 in
theorem tu_p1 {x0 x1 x2 x3 x4 x5 x6 x7 x8 x9 x10 x11 x12 x13 x14 x15 x16 x17 x18 x19 x20 x21 x22 x23 x24 x25 x26 x27 x28 x29 x30 x31 x32 x33 x34 x35 x36 x37 x38 x39 x40 x41 x42 x43 x44 x45 x46 x47 x48 x49 x50 x51 x52 x53 x54 x55 x56 x57 x58 x59 x60 x61 x62 x63 x64 x65 x66 x67 x68 x69 x70 x71 x72 x73 x74 x75 x76 x77 x78 x79 x80 x81 x82 x83 x84 x85 x86 x87 x88 x89 x90 x91 x92 x93 x94 x95 x96 x97 x98 x99 x100 x101 x102 x103 x104 x105 x106 x107 x108 x109 x110 x111 x112 x113 x114 x115 x116 x117 x118 x119 x120 x121 x122 x123 x124 x125 x126 x127 x128 x129 x130 x131 x132 : Value} {Q : Exit → Act → World → Prop} {W : World} (OS : ScoOk17)
    (hN : ∀ (wx : World) (y18 : Value), Below W.heap.size W wx → Q .normal ⟨#[x0, x1, x2, x3, x4, x5, x6, .bool true, x8, x9, x10, x11, x12, x13, x14, x15, x16, x17, y18, x19, x20, x21, x22, x23, x24, x25, x26, x27, x28, x29, x30, x31, x32, x33, x34, x35, x36, x37, x38, x39, x40, x41, x42, x43, x44, x45, x46, x47, x48, x49, x50, x51, x52, x53, x54, x55, x56, x57, x58, x59, x60, x61, x62, x63, x64, x65, x66, x67, x68, x69, x70, x71, x72, x73, x74, x75, x76, x77, x78, x79, x80, x81, x82, x83, x84, x85, x86, x87, x88, x89, x90, x91, x92, x93, x94, x95, x96, x97, x98, x99, x100, x101, x102, x103, x104, x105, x106, x107, x108, x109, x110, x111, x112, x113, x114, x115, x116, x117, x118, x119, x120, x121, x122, x123, x124, x125, x126, x127, x128, x129, x130, x131, x132], []⟩ wx) :
    Code.wp Try.prog ((Try.f5.body.bind (pcAt 1)).getD .skip) Q ⟨#[x0, x1, x2, x3, x4, x5, x6, x7, x8, x9, x10, x11, x12, x13, x14, x15, x16, x17, x18, x19, x20, x21, x22, x23, x24, x25, x26, x27, x28, x29, x30, x31, x32, x33, x34, x35, x36, x37, x38, x39, x40, x41, x42, x43, x44, x45, x46, x47, x48, x49, x50, x51, x52, x53, x54, x55, x56, x57, x58, x59, x60, x61, x62, x63, x64, x65, x66, x67, x68, x69, x70, x71, x72, x73, x74, x75, x76, x77, x78, x79, x80, x81, x82, x83, x84, x85, x86, x87, x88, x89, x90, x91, x92, x93, x94, x95, x96, x97, x98, x99, x100, x101, x102, x103, x104, x105, x106, x107, x108, x109, x110, x111, x112, x113, x114, x115, x116, x117, x118, x119, x120, x121, x122, x123, x124, x125, x126, x127, x128, x129, x130, x131, x132], []⟩ W := by
  conv => arg 2; whnf
  have HN : Hid (∀ (wx : World) (y18 : Value), Below W.heap.size W wx → Q .normal ⟨#[x0, x1, x2, x3, x4, x5, x6, .bool true, x8, x9, x10, x11, x12, x13, x14, x15, x16, x17, y18, x19, x20, x21, x22, x23, x24, x25, x26, x27, x28, x29, x30, x31, x32, x33, x34, x35, x36, x37, x38, x39, x40, x41, x42, x43, x44, x45, x46, x47, x48, x49, x50, x51, x52, x53, x54, x55, x56, x57, x58, x59, x60, x61, x62, x63, x64, x65, x66, x67, x68, x69, x70, x71, x72, x73, x74, x75, x76, x77, x78, x79, x80, x81, x82, x83, x84, x85, x86, x87, x88, x89, x90, x91, x92, x93, x94, x95, x96, x97, x98, x99, x100, x101, x102, x103, x104, x105, x106, x107, x108, x109, x110, x111, x112, x113, x114, x115, x116, x117, x118, x119, x120, x121, x122, x123, x124, x125, x126, x127, x128, x129, x130, x131, x132], []⟩ wx) := hN
  clear hN
  have HA := (show Hid _ from awake17_any OS W)
  go_wp2_with fail
  refine Calls.mono HA.out ?_
  rintro e wx ⟨rfl, h1⟩
  have HT : Hid (Below W.heap.size W wx) := h1
  clear HA h1
  dsimp only
  go_wp2_with fail
  exact HN.out wx _ HT.out

set_option maxRecDepth 100000 in
set_option maxHeartbeats 12800000 in
theorem tu_p2 {x0 x1 x3 x4 x5 x6 x7 x8 x9 x10 x11 x12 x13 x14 x15 x16 x17 x18 x19 x20 x21 x22 x23 x24 x25 x26 x27 x28 x29 x30 x31 x32 x33 x34 x35 x36 x37 x38 x39 x40 x41 x42 x43 x44 x45 x46 x47 x48 x49 x50 x51 x52 x53 x54 x55 x56 x57 x58 x59 x60 x61 x62 x63 x64 x65 x66 x67 x68 x69 x70 x71 x72 x73 x74 x75 x76 x77 x78 x79 x80 x81 x82 x83 x84 x85 x86 x87 x88 x89 x90 x91 x92 x93 x94 x95 x96 x97 x98 x99 x100 x101 x102 x103 x104 x105 x106 x107 x108 x109 x110 x111 x112 x113 x114 x115 x116 x117 x118 x119 x120 x121 x122 x123 x124 x125 x126 x127 x128 x129 x130 x131 x132 : Value} {Q : Exit → Act → World → Prop} {W : World} {a : Option Addr} {n c : Nat} 
    (hN : ∀ (y19 y20 : Value), Q .normal ⟨#[x0, x1, .slice a n c, x3, x4, x5, x6, x7, .int .i64 (n : Int), x9, x10, x11, x12, x13, x14, x15, x16, x17, x18, y19, y20, x21, x22, x23, x24, x25, x26, x27, x28, x29, x30, x31, x32, x33, x34, x35, x36, x37, x38, x39, x40, x41, x42, x43, x44, x45, x46, x47, x48, x49, x50, x51, x52, x53, x54, x55, x56, x57, x58, x59, x60, x61, x62, x63, x64, x65, x66, x67, x68, x69, x70, x71, x72, x73, x74, x75, x76, x77, x78, x79, x80, x81, x82, x83, x84, x85, x86, x87, x88, x89, x90, x91, x92, x93, x94, x95, x96, x97, x98, x99, x100, x101, x102, x103, x104, x105, x106, x107, x108, x109, x110, x111, x112, x113, x114, x115, x116, x117, x118, x119, x120, x121, x122, x123, x124, x125, x126, x127, x128, x129, x130, x131, x132], []⟩ W) :
    Code.wp Try.prog ((Try.f5.body.bind (pcAt 2)).getD .skip) Q ⟨#[x0, x1, .slice a n c, x3, x4, x5, x6, x7, x8, x9, x10, x11, x12, x13, x14, x15, x16, x17, x18, x19, x20, x21, x22, x23, x24, x25, x26, x27, x28, x29, x30, x31, x32, x33, x34, x35, x36, x37, x38, x39, x40, x41, x42, x43, x44, x45, x46, x47, x48, x49, x50, x51, x52, x53, x54, x55, x56, x57, x58, x59, x60, x61, x62, x63, x64, x65, x66, x67, x68, x69, x70, x71, x72, x73, x74, x75, x76, x77, x78, x79, x80, x81, x82, x83, x84, x85, x86, x87, x88, x89, x90, x91, x92, x93, x94, x95, x96, x97, x98, x99, x100, x101, x102, x103, x104, x105, x106, x107, x108, x109, x110, x111, x112, x113, x114, x115, x116, x117, x118, x119, x120, x121, x122, x123, x124, x125, x126, x127, x128, x129, x130, x131, x132], []⟩ W := by
  conv => arg 2; whnf
  have HN : Hid (∀ (y19 y20 : Value), Q .normal ⟨#[x0, x1, .slice a n c, x3, x4, x5, x6, x7, .int .i64 (n : Int), x9, x10, x11, x12, x13, x14, x15, x16, x17, x18, y19, y20, x21, x22, x23, x24, x25, x26, x27, x28, x29, x30, x31, x32, x33, x34, x35, x36, x37, x38, x39, x40, x41, x42, x43, x44, x45, x46, x47, x48, x49, x50, x51, x52, x53, x54, x55, x56, x57, x58, x59, x60, x61, x62, x63, x64, x65, x66, x67, x68, x69, x70, x71, x72, x73, x74, x75, x76, x77, x78, x79, x80, x81, x82, x83, x84, x85, x86, x87, x88, x89, x90, x91, x92, x93, x94, x95, x96, x97, x98, x99, x100, x101, x102, x103, x104, x105, x106, x107, x108, x109, x110, x111, x112, x113, x114, x115, x116, x117, x118, x119, x120, x121, x122, x123, x124, x125, x126, x127, x128, x129, x130, x131, x132], []⟩ W) := hN
  clear hN
  go_wp2_with fail
  exact HN.out  _ _ 

set_option maxRecDepth 100000 in
set_option maxHeartbeats 12800000 in
theorem tu_p3 {x0 x1 x2 x3 x4 x5 x6 x9 x10 x11 x12 x13 x14 x15 x16 x17 x18 x19 x20 x21 x22 x23 x24 x25 x26 x27 x28 x29 x30 x31 x32 x33 x34 x35 x36 x37 x38 x39 x40 x41 x42 x43 x44 x45 x46 x47 x48 x49 x50 x51 x52 x53 x54 x55 x56 x57 x58 x59 x60 x61 x62 x63 x64 x65 x66 x67 x68 x69 x70 x71 x72 x73 x74 x75 x76 x77 x78 x79 x80 x81 x82 x83 x84 x85 x86 x87 x88 x89 x90 x91 x92 x93 x94 x95 x96 x97 x98 x99 x100 x101 x102 x103 x104 x105 x106 x107 x108 x109 x110 x111 x112 x113 x114 x115 x116 x117 x118 x119 x120 x121 x122 x123 x124 x125 x126 x127 x128 x129 x130 x131 x132 : Value} {Q : Exit → Act → World → Prop} {W : World} {n : Nat} 
    (hN : ∀ (y6 y21 y22 y23 y24 y25 y26 y27 y28 y29 y30 y31 : Value), 1 ≤ n ∧ n ≤ 500 → Q .normal ⟨#[x0, x1, x2, x3, x4, x5, y6, .bool true, .int .i64 (n : Int), x9, x10, x11, x12, x13, x14, x15, x16, x17, x18, x19, x20, y21, y22, y23, y24, y25, y26, y27, y28, y29, y30, y31, x32, x33, x34, x35, x36, x37, x38, x39, x40, x41, x42, x43, x44, x45, x46, x47, x48, x49, x50, x51, x52, x53, x54, x55, x56, x57, x58, x59, x60, x61, x62, x63, x64, x65, x66, x67, x68, x69, x70, x71, x72, x73, x74, x75, x76, x77, x78, x79, x80, x81, x82, x83, x84, x85, x86, x87, x88, x89, x90, x91, x92, x93, x94, x95, x96, x97, x98, x99, x100, x101, x102, x103, x104, x105, x106, x107, x108, x109, x110, x111, x112, x113, x114, x115, x116, x117, x118, x119, x120, x121, x122, x123, x124, x125, x126, x127, x128, x129, x130, x131, x132], []⟩ W)
    (hR : ∀ (y21 y22 y23 y24 y25 y26 y27 y28 y29 y30 y31 : Value), Q .ret ⟨#[x0, x1, x2, x3, x4, x5, .bool true, .bool true, .int .i64 (n : Int), x9, x10, x11, x12, x13, x14, x15, x16, x17, x18, x19, x20, y21, y22, y23, y24, y25, y26, y27, y28, y29, y30, y31, x32, x33, x34, x35, x36, x37, x38, x39, x40, x41, x42, x43, x44, x45, x46, x47, x48, x49, x50, x51, x52, x53, x54, x55, x56, x57, x58, x59, x60, x61, x62, x63, x64, x65, x66, x67, x68, x69, x70, x71, x72, x73, x74, x75, x76, x77, x78, x79, x80, x81, x82, x83, x84, x85, x86, x87, x88, x89, x90, x91, x92, x93, x94, x95, x96, x97, x98, x99, x100, x101, x102, x103, x104, x105, x106, x107, x108, x109, x110, x111, x112, x113, x114, x115, x116, x117, x118, x119, x120, x121, x122, x123, x124, x125, x126, x127, x128, x129, x130, x131, x132], []⟩ W) :
    Code.wp Try.prog ((Try.f5.body.bind (pcAt 3)).getD .skip) Q ⟨#[x0, x1, x2, x3, x4, x5, x6, .bool true, .int .i64 (n : Int), x9, x10, x11, x12, x13, x14, x15, x16, x17, x18, x19, x20, x21, x22, x23, x24, x25, x26, x27, x28, x29, x30, x31, x32, x33, x34, x35, x36, x37, x38, x39, x40, x41, x42, x43, x44, x45, x46, x47, x48, x49, x50, x51, x52, x53, x54, x55, x56, x57, x58, x59, x60, x61, x62, x63, x64, x65, x66, x67, x68, x69, x70, x71, x72, x73, x74, x75, x76, x77, x78, x79, x80, x81, x82, x83, x84, x85, x86, x87, x88, x89, x90, x91, x92, x93, x94, x95, x96, x97, x98, x99, x100, x101, x102, x103, x104, x105, x106, x107, x108, x109, x110, x111, x112, x113, x114, x115, x116, x117, x118, x119, x120, x121, x122, x123, x124, x125, x126, x127, x128, x129, x130, x131, x132], []⟩ W := by
  conv => arg 2; whnf
  have HN : Hid (∀ (y6 y21 y22 y23 y24 y25 y26 y27 y28 y29 y30 y31 : Value), 1 ≤ n ∧ n ≤ 500 → Q .normal ⟨#[x0, x1, x2, x3, x4, x5, y6, .bool true, .int .i64 (n : Int), x9, x10, x11, x12, x13, x14, x15, x16, x17, x18, x19, x20, y21, y22, y23, y24, y25, y26, y27, y28, y29, y30, y31, x32, x33, x34, x35, x36, x37, x38, x39, x40, x41, x42, x43, x44, x45, x46, x47, x48, x49, x50, x51, x52, x53, x54, x55, x56, x57, x58, x59, x60, x61, x62, x63, x64, x65, x66, x67, x68, x69, x70, x71, x72, x73, x74, x75, x76, x77, x78, x79, x80, x81, x82, x83, x84, x85, x86, x87, x88, x89, x90, x91, x92, x93, x94, x95, x96, x97, x98, x99, x100, x101, x102, x103, x104, x105, x106, x107, x108, x109, x110, x111, x112, x113, x114, x115, x116, x117, x118, x119, x120, x121, x122, x123, x124, x125, x126, x127, x128, x129, x130, x131, x132], []⟩ W) := hN
  have HR : Hid (∀ (y21 y22 y23 y24 y25 y26 y27 y28 y29 y30 y31 : Value), Q .ret ⟨#[x0, x1, x2, x3, x4, x5, .bool true, .bool true, .int .i64 (n : Int), x9, x10, x11, x12, x13, x14, x15, x16, x17, x18, x19, x20, y21, y22, y23, y24, y25, y26, y27, y28, y29, y30, y31, x32, x33, x34, x35, x36, x37, x38, x39, x40, x41, x42, x43, x44, x45, x46, x47, x48, x49, x50, x51, x52, x53, x54, x55, x56, x57, x58, x59, x60, x61, x62, x63, x64, x65, x66, x67, x68, x69, x70, x71, x72, x73, x74, x75, x76, x77, x78, x79, x80, x81, x82, x83, x84, x85, x86, x87, x88, x89, x90, x91, x92, x93, x94, x95, x96, x97, x98, x99, x100, x101, x102, x103, x104, x105, x106, x107, x108, x109, x110, x111, x112, x113, x114, x115, x116, x117, x118, x119, x120, x121, x122, x123, x124, x125, x126, x127, x128, x129, x130, x131, x132], []⟩ W) := hR
  clear hN hR
  by_cases h1 : n = 0
  · have d1 : ((n : Int) == 0) = true := by simp [h1]
    clear HN
    subst h1
    go_wp2_with fail
    exact HR.out  _ _ _ _ _ _ _ _ _ _ _ 
  have d1 : ((n : Int) == 0) = false := by simp [h1]
  by_cases h2 : 500 < n
  · have d2 : decide (500 < n) = true := decide_eq_true h2
    have d2i : decide ((500 : Int) < (n : Int)) = true := decide_eq_true (by omega)
    clear HN h1 h2
    go_wp2_with fail
    exact HR.out  _ _ _ _ _ _ _ _ _ _ _ 
  · have d2 : decide (500 < n) = false := decide_eq_false h2
    have d2i : decide ((500 : Int) < (n : Int)) = false := decide_eq_false (by omega)
    have HX : Hid (1 ≤ n ∧ n ≤ 500) := ⟨by omega, by omega⟩
    clear HR h1 h2
    go_wp2_with fail
    exact HN.out  _ _ _ _ _ _ _ _ _ _ _ _ HX.out

set_option maxRecDepth 100000 in
set_option maxHeartbeats 12800000 in
theorem tu_p5 {x0 x1 x2 x3 x4 x5 x6 x7 x9 x10 x11 x12 x13 x14 x15 x16 x17 x18 x19 x20 x21 x22 x23 x24 x25 x26 x27 x28 x29 x30 x31 x32 x33 x34 x35 x36 x37 x38 x39 x40 x41 x42 x43 x44 x45 x46 x47 x48 x49 x50 x51 x52 x53 x54 x55 x56 x57 x58 x59 x60 x61 x62 x63 x64 x65 x66 x67 x68 x69 x70 x71 x72 x73 x74 x75 x76 x77 x78 x79 x80 x81 x82 x83 x84 x85 x86 x87 x88 x89 x90 x91 x92 x93 x94 x95 x96 x97 x98 x99 x100 x101 x102 x103 x104 x105 x106 x107 x108 x109 x110 x111 x112 x113 x114 x115 x116 x117 x118 x119 x120 x121 x122 x123 x124 x125 x126 x127 x128 x129 x130 x131 x132 : Value} {Q : Exit → Act → World → Prop} {W : World} {n : Nat} (hn : n ≤ 500)
    (hN : ∀ (y32 y33 : Value), Q .normal ⟨#[x0, x1, x2, x3, x4, x5, x6, x7, .int .i64 (n : Int), .int .i64 ((n / 2 : Nat) : Int), x10, x11, x12, x13, x14, x15, x16, x17, x18, x19, x20, x21, x22, x23, x24, x25, x26, x27, x28, x29, x30, x31, y32, y33, x34, x35, x36, x37, x38, x39, x40, x41, x42, x43, x44, x45, x46, x47, x48, x49, x50, x51, x52, x53, x54, x55, x56, x57, x58, x59, x60, x61, x62, x63, x64, x65, x66, x67, x68, x69, x70, x71, x72, x73, x74, x75, x76, x77, x78, x79, x80, x81, x82, x83, x84, x85, x86, x87, x88, x89, x90, x91, x92, x93, x94, x95, x96, x97, x98, x99, x100, x101, x102, x103, x104, x105, x106, x107, x108, x109, x110, x111, x112, x113, x114, x115, x116, x117, x118, x119, x120, x121, x122, x123, x124, x125, x126, x127, x128, x129, x130, x131, x132], []⟩ W) :
    Code.wp Try.prog ((Try.f5.body.bind (pcAt 5)).getD .skip) Q ⟨#[x0, x1, x2, x3, x4, x5, x6, x7, .int .i64 (n : Int), x9, x10, x11, x12, x13, x14, x15, x16, x17, x18, x19, x20, x21, x22, x23, x24, x25, x26, x27, x28, x29, x30, x31, x32, x33, x34, x35, x36, x37, x38, x39, x40, x41, x42, x43, x44, x45, x46, x47, x48, x49, x50, x51, x52, x53, x54, x55, x56, x57, x58, x59, x60, x61, x62, x63, x64, x65, x66, x67, x68, x69, x70, x71, x72, x73, x74, x75, x76, x77, x78, x79, x80, x81, x82, x83, x84, x85, x86, x87, x88, x89, x90, x91, x92, x93, x94, x95, x96, x97, x98, x99, x100, x101, x102, x103, x104, x105, x106, x107, x108, x109, x110, x111, x112, x113, x114, x115, x116, x117, x118, x119, x120, x121, x122, x123, x124, x125, x126, x127, x128, x129, x130, x131, x132], []⟩ W := by
  conv => arg 2; whnf
  have HN : Hid (∀ (y32 y33 : Value), Q .normal ⟨#[x0, x1, x2, x3, x4, x5, x6, x7, .int .i64 (n : Int), .int .i64 ((n / 2 : Nat) : Int), x10, x11, x12, x13, x14, x15, x16, x17, x18, x19, x20, x21, x22, x23, x24, x25, x26, x27, x28, x29, x30, x31, y32, y33, x34, x35, x36, x37, x38, x39, x40, x41, x42, x43, x44, x45, x46, x47, x48, x49, x50, x51, x52, x53, x54, x55, x56, x57, x58, x59, x60, x61, x62, x63, x64, x65, x66, x67, x68, x69, x70, x71, x72, x73, x74, x75, x76, x77, x78, x79, x80, x81, x82, x83, x84, x85, x86, x87, x88, x89, x90, x91, x92, x93, x94, x95, x96, x97, x98, x99, x100, x101, x102, x103, x104, x105, x106, x107, x108, x109, x110, x111, x112, x113, x114, x115, x116, x117, x118, x119, x120, x121, x122, x123, x124, x125, x126, x127, x128, x129, x130, x131, x132], []⟩ W) := hN
  clear hN
  have e : ((n / 2 : Nat) : Int) = (n : Int) / 2 := by omega
  have e2 : (n : Int).tdiv 2 = (n : Int) / 2 := by rw [Int.tdiv_eq_ediv_of_nonneg (by omega)]
  have e3 : IntKind.i64.wrap ((n : Int) / 2) = (n : Int) / 2 := by rw [IntKind.wrap_i64]; omega
  rw [e] at HN
  go_wp2_with fail
  exact HN.out  _ _ 

set_option maxRecDepth 100000 in
set_option maxHeartbeats 12800000 in
theorem tu_p6 {x0 x1 x3 x4 x5 x6 x7 x8 x10 x11 x12 x13 x14 x15 x16 x17 x18 x19 x20 x21 x22 x23 x24 x25 x26 x27 x28 x29 x30 x31 x32 x33 x34 x35 x36 x37 x38 x39 x40 x41 x42 x43 x44 x45 x46 x47 x48 x49 x50 x51 x52 x53 x54 x55 x56 x57 x58 x59 x60 x61 x62 x63 x64 x65 x66 x67 x68 x69 x70 x71 x72 x73 x74 x75 x76 x77 x78 x79 x80 x81 x82 x83 x84 x85 x86 x87 x88 x89 x90 x91 x92 x93 x94 x95 x96 x97 x98 x99 x100 x101 x102 x103 x104 x105 x106 x107 x108 x109 x110 x111 x112 x113 x114 x115 x116 x117 x118 x119 x120 x121 x122 x123 x124 x125 x126 x127 x128 x129 x130 x131 x132 : Value} {Q : Exit → Act → World → Prop} {W : World} {b off n c k : Nat} {ss : List (Int × Int)} (hR : SRows W (some ⟨b, off, none⟩) n c ss) (hk : k < n) (hn : n ≤ 500)
    (hN : ∀ (q : Option Addr) (m : Nat) (wx : World) (y34 y35 y36 y37 y38 y39 y40 y41 y42 : Value), SRows wx q n m (ss.drop k ++ ss.take k) → Below W.heap.size W wx → Q .normal ⟨#[x0, x1, .slice (some ⟨b, off, none⟩) n c, x3, x4, x5, x6, x7, x8, .int .i64 (k : Int), .slice q n m, x11, x12, x13, x14, x15, x16, x17, x18, x19, x20, x21, x22, x23, x24, x25, x26, x27, x28, x29, x30, x31, x32, x33, y34, y35, y36, y37, y38, y39, y40, y41, y42, x43, x44, x45, x46, x47, x48, x49, x50, x51, x52, x53, x54, x55, x56, x57, x58, x59, x60, x61, x62, x63, x64, x65, x66, x67, x68, x69, x70, x71, x72, x73, x74, x75, x76, x77, x78, x79, x80, x81, x82, x83, x84, x85, x86, x87, x88, x89, x90, x91, x92, x93, x94, x95, x96, x97, x98, x99, x100, x101, x102, x103, x104, x105, x106, x107, x108, x109, x110, x111, x112, x113, x114, x115, x116, x117, x118, x119, x120, x121, x122, x123, x124, x125, x126, x127, x128, x129, x130, x131, x132], []⟩ wx) :
    Code.wp Try.prog ((Try.f5.body.bind (pcAt 6)).getD .skip) Q ⟨#[x0, x1, .slice (some ⟨b, off, none⟩) n c, x3, x4, x5, x6, x7, x8, .int .i64 (k : Int), x10, x11, x12, x13, x14, x15, x16, x17, x18, x19, x20, x21, x22, x23, x24, x25, x26, x27, x28, x29, x30, x31, x32, x33, x34, x35, x36, x37, x38, x39, x40, x41, x42, x43, x44, x45, x46, x47, x48, x49, x50, x51, x52, x53, x54, x55, x56, x57, x58, x59, x60, x61, x62, x63, x64, x65, x66, x67, x68, x69, x70, x71, x72, x73, x74, x75, x76, x77, x78, x79, x80, x81, x82, x83, x84, x85, x86, x87, x88, x89, x90, x91, x92, x93, x94, x95, x96, x97, x98, x99, x100, x101, x102, x103, x104, x105, x106, x107, x108, x109, x110, x111, x112, x113, x114, x115, x116, x117, x118, x119, x120, x121, x122, x123, x124, x125, x126, x127, x128, x129, x130, x131, x132], []⟩ W := by
  conv => arg 2; whnf
  have HN : Hid (∀ (q : Option Addr) (m : Nat) (wx : World) (y34 y35 y36 y37 y38 y39 y40 y41 y42 : Value), SRows wx q n m (ss.drop k ++ ss.take k) → Below W.heap.size W wx → Q .normal ⟨#[x0, x1, .slice (some ⟨b, off, none⟩) n c, x3, x4, x5, x6, x7, x8, .int .i64 (k : Int), .slice q n m, x11, x12, x13, x14, x15, x16, x17, x18, x19, x20, x21, x22, x23, x24, x25, x26, x27, x28, x29, x30, x31, x32, x33, y34, y35, y36, y37, y38, y39, y40, y41, y42, x43, x44, x45, x46, x47, x48, x49, x50, x51, x52, x53, x54, x55, x56, x57, x58, x59, x60, x61, x62, x63, x64, x65, x66, x67, x68, x69, x70, x71, x72, x73, x74, x75, x76, x77, x78, x79, x80, x81, x82, x83, x84, x85, x86, x87, x88, x89, x90, x91, x92, x93, x94, x95, x96, x97, x98, x99, x100, x101, x102, x103, x104, x105, x106, x107, x108, x109, x110, x111, x112, x113, x114, x115, x116, x117, x118, x119, x120, x121, x122, x123, x124, x125, x126, x127, x128, x129, x130, x131, x132], []⟩ wx) := hN
  clear hN
  have hnc := hR.hcap
  have hlen := hR.hlen
  have hi1 : (n : Int) ≤ (c : Int) := by omega
  have hi2 : (k : Int) ≤ (n : Int) := by omega
  have hi3 : (k : Int) ≤ (c : Int) := by omega
  have hi0 : (0 : Int) ≤ (k : Int) := by omega
  have hck : ¬ c = k := by omega
  have HLit : Hid (SOwn (W.alloc (.cells #[] 23)) W.heap.size (.slice (some ⟨W.heap.size, 0, none⟩) 0 0) []) := SOwn.empty W
  have HC : Hid (∀ wx, Below W.heap.size W wx → ∀ i, i < n → wx.cell? ⟨b, off + i * 2, none⟩ = some (.int .i64 (ss.getD i (0, 0)).1) ∧ wx.cell? ⟨b, off + i * 2 + 1, none⟩ = some (.int .i64 (ss.getD i (0, 0)).2)) := fun wx h i hi => by
    obtain ⟨b', off', e, hc⟩ := (hR.below h).cells (by omega)
    cases e
    exact hc i hi
  have HC1 : Hid (∀ wx, Below W.heap.size W wx → ∀ i, i < n - k → wx.cell? ⟨b, off + k * 2 + i * 2, none⟩ = some (.int .i64 ((ss.drop k).getD i (0, 0)).1) ∧ wx.cell? ⟨b, off + k * 2 + i * 2 + 1, none⟩ = some (.int .i64 ((ss.drop k).getD i (0, 0)).2)) := fun wx h i hi => by
    have h1 := HC.out wx h (k + i) (by omega)
    have e1 : (ss.drop k).getD i (0, 0) = ss.getD (k + i) (0, 0) := by simp [List.getD, List.getElem?_drop]
    rw [e1, show off + k * 2 + i * 2 = off + (k + i) * 2 by omega]
    exact h1
  have HC2 : Hid (∀ wx, Below W.heap.size W wx → ∀ i, i < k → wx.cell? ⟨b, off + i * 2, none⟩ = some (.int .i64 ((ss.take k).getD i (0, 0)).1) ∧ wx.cell? ⟨b, off + i * 2 + 1, none⟩ = some (.int .i64 ((ss.take k).getD i (0, 0)).2)) := fun wx h i hi => by
    have h1 := HC.out wx h i (by omega)
    have e1 : (ss.take k).getD i (0, 0) = ss.getD i (0, 0) := by simp [List.getD, hi]
    rw [e1]
    exact h1
  have HZ : Hid ((ss.drop k).length = n - k ∧ (ss.take k).length = k ∧ ([] : List (Int × Int)).length + (n - k) < 1000000 ∧ ([] ++ ss.drop k).length + k < 1000000) := by
    refine ⟨by simp; omega, by simp; omega, by simp; omega, by simp; omega⟩
  have HF : Hid (∀ wx v5 w5, wx.grownBy w5 (some W.heap.size) → SOwn w5 W.heap.size v5 ([] ++ ss.drop k) → wx.heap.size = W.heap.size + 1 → Below W.heap.size W wx → Hid (Half17 W w5 v5 ([] ++ ss.drop k))) := fun wx v5 w5 g5 h5 hs hb =>
    have hb5 : Below W.heap.size W w5 := hb.trans ⟨g5.os, g5.tape, g5.output, g5.size, fun q hq => g5.block q (by omega) (fun e => by cases e; omega)⟩
    ⟨h5, hb5, hb5.size⟩
  have HG : Hid (∀ w5 v5 v6 w6, SOwn w6 W.heap.size v6 ([] ++ ss.drop k ++ ss.take k) → w5.grownBy w6 v5.ownBlock → Hid (Half17 W w5 v5 ([] ++ ss.drop k)) → ∃ q m, v6 = .slice q n m ∧ Hid (SRows w6 q n m (ss.drop k ++ ss.take k) ∧ Below W.heap.size W w6)) := fun w5 v5 v6 w6 h6 g6 h => by
    obtain ⟨q, m, e, hq⟩ := h6.rows (fun s hs => hR.word s (by
      simp only [List.nil_append, List.mem_append] at hs
      rcases hs with hs | hs
      · exact List.mem_of_mem_drop hs
      · exact List.mem_of_mem_take hs))
    have el : ([] ++ ss.drop k ++ ss.take k).length = n := by simp; omega
    rw [el] at e hq
    rw [List.nil_append] at hq
    exact ⟨q, m, e, hq, h.out.2.1.trans (h.out.1.low g6 h.out.2.2)⟩
  have hs1 : (W.alloc (.cells #[] 23)).heap.size = W.heap.size + 1 := by
    show (W.heap.push _).size = _
    simp
  have HS1 : Hid ((W.alloc (.cells #[] 23)).heap.size = W.heap.size + 1) := hs1
  have HS2 : Hid (W.heap.size ≤ (W.alloc (.cells #[] 23)).heap.size) := by rw [hs1]; exact Nat.le_succ _
  clear hR hk hn hnc hlen hs1
  refine wp_pcOnly ?_
  go_wp2_with fail
  go_region_law (first
    | (refine step_appSs _ rfl (.tmp 34) (.tmp 37) rfl W.heap.size (.slice (some ⟨W.heap.size, 0, none⟩) 0 0) [] (by rfl) (by first | exact HLit.out | exact HLit.out.drew) b (off + k * 2) (n - k) (c - k) (ss.drop k) (by rfl) HZ.out.1 (HC1.out _ (by repeat (first | exact Below.refl _ _ | assumption | refine bdr12 ?_ | refine bgr12 ?_ _))) HZ.out.2.2.1 HS2.out ?_; intro v5 w5 h5 g5; have hF5 := HF.out _ v5 w5 g5 h5 HS1.out (by repeat (first | exact Below.refl _ _ | assumption | refine bdr12 ?_ | refine bgr12 ?_ _)); clear h5 g5)
    | (refine step_appSs _ rfl (.tmp 38) (.tmp 41) rfl W.heap.size _ ([] ++ ss.drop k) (by rfl) (Hid.out (by assumption : Hid (Half17 W _ _ ([] ++ ss.drop k)))).1 b off k c (ss.take k) (by rfl) HZ.out.2.1 (HC2.out _ (Hid.out (by assumption : Hid (Half17 W _ _ ([] ++ ss.drop k)))).2.1) HZ.out.2.2.2 (Hid.out (by assumption : Hid (Half17 W _ _ ([] ++ ss.drop k)))).2.2 ?_; intro v6 w6 h6 g6; obtain ⟨q6, m6, rfl, hF6⟩ := HG.out _ _ v6 w6 h6 g6 (by assumption); clear h6 g6)
    | fail)
  all_goals
    go_wp2_with fail
    obtain ⟨f1, f2⟩ := (by assumption : Hid (SRows _ _ n _ (ss.drop k ++ ss.take k) ∧ Below W.heap.size W _)).out
    exact HN.out _ _ _ _ _ _ _ _ _ _ _ _ f1 f2

set_option maxRecDepth 100000 in
set_option maxHeartbeats 12800000 in
theorem tu_p7 {x0 x1 x5 x6 x7 x8 x9 x10 x11 x12 x13 x14 x15 x16 x17 x18 x19 x20 x21 x22 x23 x24 x25 x26 x27 x28 x29 x30 x31 x32 x33 x34 x35 x36 x37 x38 x39 x40 x41 x42 x43 x44 x45 x46 x47 x48 x49 x50 x51 x52 x53 x54 x55 x56 x57 x58 x59 x60 x61 x62 x63 x64 x65 x66 x67 x68 x69 x70 x71 x72 x73 x74 x75 x76 x77 x78 x79 x80 x81 x82 x83 x84 x85 x86 x87 x88 x89 x90 x91 x92 x93 x94 x95 x96 x97 x98 x99 x100 x101 x102 x103 x104 x105 x106 x107 x108 x109 x110 x111 x112 x113 x114 x115 x116 x117 x118 x119 x120 x121 x122 x123 x124 x125 x126 x127 x128 x129 x130 x131 x132 : Value} {Q : Exit → Act → World → Prop} {W : World} {x y A B : Int} {g h n m : Nat} {q : Option Addr} {ss : List (Int × Int)} (OB : BesOk17) (hc : (W.cell? ⟨g, 0, none⟩ = some (.int .i64 x) ∧ W.cell? ⟨g, 1, none⟩ = some (.int .i64 y))) (hd : (W.cell? ⟨h, 0, none⟩ = some (.int .i64 A) ∧ W.cell? ⟨h, 1, none⟩ = some (.int .i64 B))) (hr : SRows W q n m ss) (b0 : (-9223372036854775808 ≤ x ∧ x < 9223372036854775808)) (b1 : (-9223372036854775808 ≤ y ∧ y < 9223372036854775808)) (b2 : (-9223372036854775808 ≤ A ∧ A < 9223372036854775808)) (b3 : (-9223372036854775808 ≤ B ∧ B < 9223372036854775808))
    (hN : ∀ (p : Option Addr) (l c : Nat) (xs : List Int) (err : Int) (wx : World) (y43 y44 y45 y46 y47 y48 y49 y50 y51 y52 : Value), Lsts wx p l c xs → ResBest17 x y A B ss err xs → Below W.heap.size W wx → Q .normal ⟨#[x0, x1, .slice q n m, .pointer (some ⟨g, 0, none⟩), .pointer (some ⟨h, 0, none⟩), x5, x6, x7, x8, x9, x10, .slice p l c, .int .i64 err, x13, x14, x15, x16, x17, x18, x19, x20, x21, x22, x23, x24, x25, x26, x27, x28, x29, x30, x31, x32, x33, x34, x35, x36, x37, x38, x39, x40, x41, x42, y43, y44, y45, y46, y47, y48, y49, y50, y51, y52, x53, x54, x55, x56, x57, x58, x59, x60, x61, x62, x63, x64, x65, x66, x67, x68, x69, x70, x71, x72, x73, x74, x75, x76, x77, x78, x79, x80, x81, x82, x83, x84, x85, x86, x87, x88, x89, x90, x91, x92, x93, x94, x95, x96, x97, x98, x99, x100, x101, x102, x103, x104, x105, x106, x107, x108, x109, x110, x111, x112, x113, x114, x115, x116, x117, x118, x119, x120, x121, x122, x123, x124, x125, x126, x127, x128, x129, x130, x131, x132], []⟩ wx) :
    Code.wp Try.prog ((Try.f5.body.bind (pcAt 7)).getD .skip) Q ⟨#[x0, x1, .slice q n m, .pointer (some ⟨g, 0, none⟩), .pointer (some ⟨h, 0, none⟩), x5, x6, x7, x8, x9, x10, x11, x12, x13, x14, x15, x16, x17, x18, x19, x20, x21, x22, x23, x24, x25, x26, x27, x28, x29, x30, x31, x32, x33, x34, x35, x36, x37, x38, x39, x40, x41, x42, x43, x44, x45, x46, x47, x48, x49, x50, x51, x52, x53, x54, x55, x56, x57, x58, x59, x60, x61, x62, x63, x64, x65, x66, x67, x68, x69, x70, x71, x72, x73, x74, x75, x76, x77, x78, x79, x80, x81, x82, x83, x84, x85, x86, x87, x88, x89, x90, x91, x92, x93, x94, x95, x96, x97, x98, x99, x100, x101, x102, x103, x104, x105, x106, x107, x108, x109, x110, x111, x112, x113, x114, x115, x116, x117, x118, x119, x120, x121, x122, x123, x124, x125, x126, x127, x128, x129, x130, x131, x132], []⟩ W := by
  conv => arg 2; whnf
  have HN : Hid (∀ (p : Option Addr) (l c : Nat) (xs : List Int) (err : Int) (wx : World) (y43 y44 y45 y46 y47 y48 y49 y50 y51 y52 : Value), Lsts wx p l c xs → ResBest17 x y A B ss err xs → Below W.heap.size W wx → Q .normal ⟨#[x0, x1, .slice q n m, .pointer (some ⟨g, 0, none⟩), .pointer (some ⟨h, 0, none⟩), x5, x6, x7, x8, x9, x10, .slice p l c, .int .i64 err, x13, x14, x15, x16, x17, x18, x19, x20, x21, x22, x23, x24, x25, x26, x27, x28, x29, x30, x31, x32, x33, x34, x35, x36, x37, x38, x39, x40, x41, x42, y43, y44, y45, y46, y47, y48, y49, y50, y51, y52, x53, x54, x55, x56, x57, x58, x59, x60, x61, x62, x63, x64, x65, x66, x67, x68, x69, x70, x71, x72, x73, x74, x75, x76, x77, x78, x79, x80, x81, x82, x83, x84, x85, x86, x87, x88, x89, x90, x91, x92, x93, x94, x95, x96, x97, x98, x99, x100, x101, x102, x103, x104, x105, x106, x107, x108, x109, x110, x111, x112, x113, x114, x115, x116, x117, x118, x119, x120, x121, x122, x123, x124, x125, x126, x127, x128, x129, x130, x131, x132], []⟩ wx) := hN
  clear hN
  have HC := (show Hid _ from OB x y A B q n m ss W b0 b1 b2 b3 hr)
  obtain ⟨x0, x1⟩ := hc
  obtain ⟨y0, y1⟩ := hd
  clear hr b0 b1 b2 b3
  go_wp2_with fail
  refine Calls.mono HC.out ?_
  rintro e w2 ⟨p, l, c, xs, err, rfl, hL, hR, hb⟩
  have HT : Hid (Lsts w2 p l c xs ∧ ResBest17 x y A B ss err xs ∧ Below W.heap.size W w2) := ⟨hL, hR, hb⟩
  clear HC hL hR hb
  dsimp only
  go_wp2_with fail
  exact HN.out p l c xs err w2 _ _ _ _ _ _ _ _ _ _ HT.out.1 HT.out.2.1 HT.out.2.2

set_option maxRecDepth 100000 in
set_option maxHeartbeats 12800000 in
theorem tu_p8 {x0 x1 x2 x5 x6 x7 x8 x9 x11 x12 x13 x14 x15 x16 x17 x18 x19 x20 x21 x22 x23 x24 x25 x26 x27 x28 x29 x30 x31 x32 x33 x34 x35 x36 x37 x38 x39 x40 x41 x42 x43 x44 x45 x46 x47 x48 x49 x50 x51 x52 x53 x54 x55 x56 x57 x58 x59 x60 x61 x62 x63 x64 x65 x66 x67 x68 x69 x70 x71 x72 x73 x74 x75 x76 x77 x78 x79 x80 x81 x82 x83 x84 x85 x86 x87 x88 x89 x90 x91 x92 x93 x94 x95 x96 x97 x98 x99 x100 x101 x102 x103 x104 x105 x106 x107 x108 x109 x110 x111 x112 x113 x114 x115 x116 x117 x118 x119 x120 x121 x122 x123 x124 x125 x126 x127 x128 x129 x130 x131 x132 : Value} {Q : Exit → Act → World → Prop} {W : World} {x y A B : Int} {g h n m : Nat} {q : Option Addr} {ss : List (Int × Int)} (OB : BesOk17) (hc : (W.cell? ⟨g, 0, none⟩ = some (.int .i64 x) ∧ W.cell? ⟨g, 1, none⟩ = some (.int .i64 y))) (hd : (W.cell? ⟨h, 0, none⟩ = some (.int .i64 A) ∧ W.cell? ⟨h, 1, none⟩ = some (.int .i64 B))) (hr : SRows W q n m ss) (b0 : (-9223372036854775808 ≤ x ∧ x < 9223372036854775808)) (b1 : (-9223372036854775808 ≤ y ∧ y < 9223372036854775808)) (b2 : (-9223372036854775808 ≤ A ∧ A < 9223372036854775808)) (b3 : (-9223372036854775808 ≤ B ∧ B < 9223372036854775808))
    (hN : ∀ (p : Option Addr) (l c : Nat) (xs : List Int) (err : Int) (wx : World) (y53 y54 y55 y56 y57 y58 y59 y60 y61 y62 : Value), Lsts wx p l c xs → ResBest17 x y A B ss err xs → Below W.heap.size W wx → Q .normal ⟨#[x0, x1, x2, .pointer (some ⟨g, 0, none⟩), .pointer (some ⟨h, 0, none⟩), x5, x6, x7, x8, x9, .slice q n m, x11, x12, .slice p l c, .int .i64 err, x15, x16, x17, x18, x19, x20, x21, x22, x23, x24, x25, x26, x27, x28, x29, x30, x31, x32, x33, x34, x35, x36, x37, x38, x39, x40, x41, x42, x43, x44, x45, x46, x47, x48, x49, x50, x51, x52, y53, y54, y55, y56, y57, y58, y59, y60, y61, y62, x63, x64, x65, x66, x67, x68, x69, x70, x71, x72, x73, x74, x75, x76, x77, x78, x79, x80, x81, x82, x83, x84, x85, x86, x87, x88, x89, x90, x91, x92, x93, x94, x95, x96, x97, x98, x99, x100, x101, x102, x103, x104, x105, x106, x107, x108, x109, x110, x111, x112, x113, x114, x115, x116, x117, x118, x119, x120, x121, x122, x123, x124, x125, x126, x127, x128, x129, x130, x131, x132], []⟩ wx) :
    Code.wp Try.prog ((Try.f5.body.bind (pcAt 8)).getD .skip) Q ⟨#[x0, x1, x2, .pointer (some ⟨g, 0, none⟩), .pointer (some ⟨h, 0, none⟩), x5, x6, x7, x8, x9, .slice q n m, x11, x12, x13, x14, x15, x16, x17, x18, x19, x20, x21, x22, x23, x24, x25, x26, x27, x28, x29, x30, x31, x32, x33, x34, x35, x36, x37, x38, x39, x40, x41, x42, x43, x44, x45, x46, x47, x48, x49, x50, x51, x52, x53, x54, x55, x56, x57, x58, x59, x60, x61, x62, x63, x64, x65, x66, x67, x68, x69, x70, x71, x72, x73, x74, x75, x76, x77, x78, x79, x80, x81, x82, x83, x84, x85, x86, x87, x88, x89, x90, x91, x92, x93, x94, x95, x96, x97, x98, x99, x100, x101, x102, x103, x104, x105, x106, x107, x108, x109, x110, x111, x112, x113, x114, x115, x116, x117, x118, x119, x120, x121, x122, x123, x124, x125, x126, x127, x128, x129, x130, x131, x132], []⟩ W := by
  conv => arg 2; whnf
  have HN : Hid (∀ (p : Option Addr) (l c : Nat) (xs : List Int) (err : Int) (wx : World) (y53 y54 y55 y56 y57 y58 y59 y60 y61 y62 : Value), Lsts wx p l c xs → ResBest17 x y A B ss err xs → Below W.heap.size W wx → Q .normal ⟨#[x0, x1, x2, .pointer (some ⟨g, 0, none⟩), .pointer (some ⟨h, 0, none⟩), x5, x6, x7, x8, x9, .slice q n m, x11, x12, .slice p l c, .int .i64 err, x15, x16, x17, x18, x19, x20, x21, x22, x23, x24, x25, x26, x27, x28, x29, x30, x31, x32, x33, x34, x35, x36, x37, x38, x39, x40, x41, x42, x43, x44, x45, x46, x47, x48, x49, x50, x51, x52, y53, y54, y55, y56, y57, y58, y59, y60, y61, y62, x63, x64, x65, x66, x67, x68, x69, x70, x71, x72, x73, x74, x75, x76, x77, x78, x79, x80, x81, x82, x83, x84, x85, x86, x87, x88, x89, x90, x91, x92, x93, x94, x95, x96, x97, x98, x99, x100, x101, x102, x103, x104, x105, x106, x107, x108, x109, x110, x111, x112, x113, x114, x115, x116, x117, x118, x119, x120, x121, x122, x123, x124, x125, x126, x127, x128, x129, x130, x131, x132], []⟩ wx) := hN
  clear hN
  have HC := (show Hid _ from OB x y A B q n m ss W b0 b1 b2 b3 hr)
  obtain ⟨x0, x1⟩ := hc
  obtain ⟨y0, y1⟩ := hd
  clear hr b0 b1 b2 b3
  go_wp2_with fail
  refine Calls.mono HC.out ?_
  rintro e w2 ⟨p, l, c, xs, err, rfl, hL, hR, hb⟩
  have HT : Hid (Lsts w2 p l c xs ∧ ResBest17 x y A B ss err xs ∧ Below W.heap.size W w2) := ⟨hL, hR, hb⟩
  clear HC hL hR hb
  dsimp only
  go_wp2_with fail
  exact HN.out p l c xs err w2 _ _ _ _ _ _ _ _ _ _ HT.out.1 HT.out.2.1 HT.out.2.2

set_option maxRecDepth 100000 in
set_option maxHeartbeats 12800000 in
theorem tu_p9 {x0 x1 x2 x3 x4 x5 x6 x7 x8 x9 x10 x15 x16 x17 x18 x19 x20 x21 x22 x23 x24 x25 x26 x27 x28 x29 x30 x31 x32 x33 x34 x35 x36 x37 x38 x39 x40 x41 x42 x43 x44 x45 x46 x47 x48 x49 x50 x51 x52 x53 x54 x55 x56 x57 x58 x59 x60 x61 x62 x63 x64 x65 x66 x67 x68 x69 x70 x71 x72 x73 x74 x75 x76 x77 x78 x79 x80 x81 x82 x83 x84 x85 x86 x87 x88 x89 x90 x91 x92 x93 x94 x95 x96 x97 x98 x99 x100 x101 x102 x103 x104 x105 x106 x107 x108 x109 x110 x111 x112 x113 x114 x115 x116 x117 x118 x119 x120 x121 x122 x123 x124 x125 x126 x127 x128 x129 x130 x131 x132 : Value} {Q : Exit → Act → World → Prop} {W : World} {p1 p2 : Option Addr} {l c1 c2 : Nat} {err : Int} 
    (hN : ∀ (y6 y63 y64 y65 y66 y67 y68 y69 y70 y71 y72 : Value), Q .normal ⟨#[x0, x1, x2, x3, x4, x5, y6, x7, x8, x9, x10, .slice p1 l c1, .int .i64 err, .slice p2 l c2, .int .i64 err, x15, x16, x17, x18, x19, x20, x21, x22, x23, x24, x25, x26, x27, x28, x29, x30, x31, x32, x33, x34, x35, x36, x37, x38, x39, x40, x41, x42, x43, x44, x45, x46, x47, x48, x49, x50, x51, x52, x53, x54, x55, x56, x57, x58, x59, x60, x61, x62, y63, y64, y65, y66, y67, y68, y69, y70, y71, y72, x73, x74, x75, x76, x77, x78, x79, x80, x81, x82, x83, x84, x85, x86, x87, x88, x89, x90, x91, x92, x93, x94, x95, x96, x97, x98, x99, x100, x101, x102, x103, x104, x105, x106, x107, x108, x109, x110, x111, x112, x113, x114, x115, x116, x117, x118, x119, x120, x121, x122, x123, x124, x125, x126, x127, x128, x129, x130, x131, x132], []⟩ W) :
    Code.wp Try.prog ((Try.f5.body.bind (pcAt 9)).getD .skip) Q ⟨#[x0, x1, x2, x3, x4, x5, x6, x7, x8, x9, x10, .slice p1 l c1, .int .i64 err, .slice p2 l c2, .int .i64 err, x15, x16, x17, x18, x19, x20, x21, x22, x23, x24, x25, x26, x27, x28, x29, x30, x31, x32, x33, x34, x35, x36, x37, x38, x39, x40, x41, x42, x43, x44, x45, x46, x47, x48, x49, x50, x51, x52, x53, x54, x55, x56, x57, x58, x59, x60, x61, x62, x63, x64, x65, x66, x67, x68, x69, x70, x71, x72, x73, x74, x75, x76, x77, x78, x79, x80, x81, x82, x83, x84, x85, x86, x87, x88, x89, x90, x91, x92, x93, x94, x95, x96, x97, x98, x99, x100, x101, x102, x103, x104, x105, x106, x107, x108, x109, x110, x111, x112, x113, x114, x115, x116, x117, x118, x119, x120, x121, x122, x123, x124, x125, x126, x127, x128, x129, x130, x131, x132], []⟩ W := by
  conv => arg 2; whnf
  have HN : Hid (∀ (y6 y63 y64 y65 y66 y67 y68 y69 y70 y71 y72 : Value), Q .normal ⟨#[x0, x1, x2, x3, x4, x5, y6, x7, x8, x9, x10, .slice p1 l c1, .int .i64 err, .slice p2 l c2, .int .i64 err, x15, x16, x17, x18, x19, x20, x21, x22, x23, x24, x25, x26, x27, x28, x29, x30, x31, x32, x33, x34, x35, x36, x37, x38, x39, x40, x41, x42, x43, x44, x45, x46, x47, x48, x49, x50, x51, x52, x53, x54, x55, x56, x57, x58, x59, x60, x61, x62, y63, y64, y65, y66, y67, y68, y69, y70, y71, y72, x73, x74, x75, x76, x77, x78, x79, x80, x81, x82, x83, x84, x85, x86, x87, x88, x89, x90, x91, x92, x93, x94, x95, x96, x97, x98, x99, x100, x101, x102, x103, x104, x105, x106, x107, x108, x109, x110, x111, x112, x113, x114, x115, x116, x117, x118, x119, x120, x121, x122, x123, x124, x125, x126, x127, x128, x129, x130, x131, x132], []⟩ W) := hN
  clear hN
  have k1 : (err == err) = true := by simp
  have k2 : ((l : Int) == (l : Int)) = true := by simp
  have k3 : (l == l) = true := by simp
  go_wp2_with fail
  exact HN.out  _ _ _ _ _ _ _ _ _ _ _ 

set_option maxRecDepth 100000 in
set_option maxHeartbeats 12800000 in
theorem tu_p11 {x0 x1 x2 x3 x4 x5 x6 x7 x9 x10 x11 x12 x13 x14 x15 x16 x17 x18 x19 x20 x21 x22 x23 x24 x25 x26 x27 x28 x29 x30 x31 x32 x33 x34 x35 x36 x37 x38 x39 x40 x41 x42 x43 x44 x45 x46 x47 x48 x49 x50 x51 x52 x53 x54 x55 x56 x57 x58 x59 x60 x61 x62 x63 x64 x65 x66 x67 x68 x69 x70 x71 x72 x73 x74 x75 x76 x77 x78 x79 x80 x81 x82 x83 x84 x85 x86 x87 x88 x89 x90 x91 x92 x93 x94 x95 x96 x97 x98 x99 x100 x101 x102 x103 x104 x105 x106 x107 x108 x109 x110 x111 x112 x113 x114 x115 x116 x117 x118 x119 x120 x121 x122 x123 x124 x125 x126 x127 x128 x129 x130 x131 x132 : Value} {Q : Exit → Act → World → Prop} {W : World} {n : Nat} (hn : n ≤ 500)
    (hN : ∀ (g : Nat) (wx : World) (y73 y74 : Value), BBk wx g (List.replicate n false) → W.heap.size ≤ g → Below W.heap.size W wx → Q .normal ⟨#[x0, x1, x2, x3, x4, x5, x6, x7, .int .i64 (n : Int), x9, x10, x11, x12, x13, x14, .slice (some ⟨g, 0, none⟩) n n, x16, x17, x18, x19, x20, x21, x22, x23, x24, x25, x26, x27, x28, x29, x30, x31, x32, x33, x34, x35, x36, x37, x38, x39, x40, x41, x42, x43, x44, x45, x46, x47, x48, x49, x50, x51, x52, x53, x54, x55, x56, x57, x58, x59, x60, x61, x62, x63, x64, x65, x66, x67, x68, x69, x70, x71, x72, y73, y74, x75, x76, x77, x78, x79, x80, x81, x82, x83, x84, x85, x86, x87, x88, x89, x90, x91, x92, x93, x94, x95, x96, x97, x98, x99, x100, x101, x102, x103, x104, x105, x106, x107, x108, x109, x110, x111, x112, x113, x114, x115, x116, x117, x118, x119, x120, x121, x122, x123, x124, x125, x126, x127, x128, x129, x130, x131, x132], []⟩ wx) :
    Code.wp Try.prog ((Try.f5.body.bind (pcAt 11)).getD .skip) Q ⟨#[x0, x1, x2, x3, x4, x5, x6, x7, .int .i64 (n : Int), x9, x10, x11, x12, x13, x14, x15, x16, x17, x18, x19, x20, x21, x22, x23, x24, x25, x26, x27, x28, x29, x30, x31, x32, x33, x34, x35, x36, x37, x38, x39, x40, x41, x42, x43, x44, x45, x46, x47, x48, x49, x50, x51, x52, x53, x54, x55, x56, x57, x58, x59, x60, x61, x62, x63, x64, x65, x66, x67, x68, x69, x70, x71, x72, x73, x74, x75, x76, x77, x78, x79, x80, x81, x82, x83, x84, x85, x86, x87, x88, x89, x90, x91, x92, x93, x94, x95, x96, x97, x98, x99, x100, x101, x102, x103, x104, x105, x106, x107, x108, x109, x110, x111, x112, x113, x114, x115, x116, x117, x118, x119, x120, x121, x122, x123, x124, x125, x126, x127, x128, x129, x130, x131, x132], []⟩ W := by
  conv => arg 2; whnf
  have HN : Hid (∀ (g : Nat) (wx : World) (y73 y74 : Value), BBk wx g (List.replicate n false) → W.heap.size ≤ g → Below W.heap.size W wx → Q .normal ⟨#[x0, x1, x2, x3, x4, x5, x6, x7, .int .i64 (n : Int), x9, x10, x11, x12, x13, x14, .slice (some ⟨g, 0, none⟩) n n, x16, x17, x18, x19, x20, x21, x22, x23, x24, x25, x26, x27, x28, x29, x30, x31, x32, x33, x34, x35, x36, x37, x38, x39, x40, x41, x42, x43, x44, x45, x46, x47, x48, x49, x50, x51, x52, x53, x54, x55, x56, x57, x58, x59, x60, x61, x62, x63, x64, x65, x66, x67, x68, x69, x70, x71, x72, y73, y74, x75, x76, x77, x78, x79, x80, x81, x82, x83, x84, x85, x86, x87, x88, x89, x90, x91, x92, x93, x94, x95, x96, x97, x98, x99, x100, x101, x102, x103, x104, x105, x106, x107, x108, x109, x110, x111, x112, x113, x114, x115, x116, x117, x118, x119, x120, x121, x122, x123, x124, x125, x126, x127, x128, x129, x130, x131, x132], []⟩ wx) := hN
  clear hN
  have HZ : Hid (n ≤ 1000000) := by show n ≤ 1000000; omega
  clear hn
  go_wp2_with (at_make; refine wpList_mkBo17 _ rfl _ _ 43 rfl Try.underlying43 .i64 .i64 _ _ n rfl rfl (by first | rfl | omega) (by first | rfl | omega) HZ.out ?_)
  intro w2 h1 h2 h3
  have HT : Hid (BBk w2 W.heap.size (List.replicate n false) ∧ Below W.heap.size W w2) := ⟨h1, h2⟩
  clear h1 h2 h3
  go_wp2_with fail
  exact HN.out _ _ _ _ HT.out.1 (Nat.le_refl _) HT.out.2

set_option maxRecDepth 100000 in
set_option maxHeartbeats 12800000 in
theorem tu_p23 {x0 x1 x2 x3 x4 x5 x6 x7 x8 x9 x10 x11 x12 x13 x14 x15 x16 x17 x18 x19 x20 x21 x22 x23 x24 x25 x26 x27 x28 x29 x30 x31 x32 x33 x34 x35 x36 x37 x38 x39 x40 x41 x42 x43 x44 x45 x46 x47 x48 x49 x50 x51 x52 x53 x54 x55 x56 x57 x58 x59 x60 x61 x62 x63 x64 x65 x66 x67 x68 x69 x70 x71 x72 x73 x74 x75 x76 x77 x78 x79 x80 x81 x82 x83 x84 x85 x86 x87 x88 x89 x90 x91 x92 x93 x94 x95 x96 x97 x98 x99 x100 x101 x102 x103 x104 x105 x106 x107 x108 x109 x110 x111 x112 x113 x114 x115 x116 x117 x118 x119 x120 x121 x122 x123 x124 x125 x126 x127 x128 x129 x130 x131 x132 : Value} {Q : Exit → Act → World → Prop} {W : World} 
    (hR : Q .ret ⟨#[x0, x1, x2, x3, x4, x5, .bool true, x7, x8, x9, x10, x11, x12, x13, x14, x15, x16, x17, x18, x19, x20, x21, x22, x23, x24, x25, x26, x27, x28, x29, x30, x31, x32, x33, x34, x35, x36, x37, x38, x39, x40, x41, x42, x43, x44, x45, x46, x47, x48, x49, x50, x51, x52, x53, x54, x55, x56, x57, x58, x59, x60, x61, x62, x63, x64, x65, x66, x67, x68, x69, x70, x71, x72, x73, x74, x75, x76, x77, x78, x79, x80, x81, x82, x83, x84, x85, x86, x87, x88, x89, x90, x91, x92, x93, x94, x95, x96, x97, x98, x99, x100, x101, x102, x103, x104, x105, x106, x107, x108, x109, x110, x111, x112, x113, x114, x115, x116, x117, x118, x119, x120, x121, x122, x123, x124, x125, x126, x127, x128, x129, x130, x131, x132], []⟩ W) :
    Code.wp Try.prog ((Try.f5.body.bind (pcFrom 23)).getD .skip) Q ⟨#[x0, x1, x2, x3, x4, x5, x6, x7, x8, x9, x10, x11, x12, x13, x14, x15, x16, x17, x18, x19, x20, x21, x22, x23, x24, x25, x26, x27, x28, x29, x30, x31, x32, x33, x34, x35, x36, x37, x38, x39, x40, x41, x42, x43, x44, x45, x46, x47, x48, x49, x50, x51, x52, x53, x54, x55, x56, x57, x58, x59, x60, x61, x62, x63, x64, x65, x66, x67, x68, x69, x70, x71, x72, x73, x74, x75, x76, x77, x78, x79, x80, x81, x82, x83, x84, x85, x86, x87, x88, x89, x90, x91, x92, x93, x94, x95, x96, x97, x98, x99, x100, x101, x102, x103, x104, x105, x106, x107, x108, x109, x110, x111, x112, x113, x114, x115, x116, x117, x118, x119, x120, x121, x122, x123, x124, x125, x126, x127, x128, x129, x130, x131, x132], []⟩ W := by
  conv => arg 2; whnf
  have HR : Hid (Q .ret ⟨#[x0, x1, x2, x3, x4, x5, .bool true, x7, x8, x9, x10, x11, x12, x13, x14, x15, x16, x17, x18, x19, x20, x21, x22, x23, x24, x25, x26, x27, x28, x29, x30, x31, x32, x33, x34, x35, x36, x37, x38, x39, x40, x41, x42, x43, x44, x45, x46, x47, x48, x49, x50, x51, x52, x53, x54, x55, x56, x57, x58, x59, x60, x61, x62, x63, x64, x65, x66, x67, x68, x69, x70, x71, x72, x73, x74, x75, x76, x77, x78, x79, x80, x81, x82, x83, x84, x85, x86, x87, x88, x89, x90, x91, x92, x93, x94, x95, x96, x97, x98, x99, x100, x101, x102, x103, x104, x105, x106, x107, x108, x109, x110, x111, x112, x113, x114, x115, x116, x117, x118, x119, x120, x121, x122, x123, x124, x125, x126, x127, x128, x129, x130, x131, x132], []⟩ W) := hR
  clear hR
  go_wp2_with fail
  exact HR.out   

set_option maxRecDepth 100000 in
set_option maxHeartbeats 12800000 in
theorem tu_t13 {x0 x1 x2 x3 x4 x5 x6 x7 x8 x9 x10 x11 x12 x14 x15 x17 x18 x19 x20 x21 x22 x23 x24 x25 x26 x27 x28 x29 x30 x31 x32 x33 x34 x35 x36 x37 x38 x39 x40 x41 x42 x43 x44 x45 x46 x47 x48 x49 x50 x51 x52 x53 x54 x55 x56 x57 x58 x59 x60 x61 x62 x63 x64 x65 x66 x67 x68 x69 x70 x71 x72 x73 x74 x75 x76 x77 x78 x79 x80 x81 x82 x83 x84 x85 x86 x87 x88 x89 x90 x91 x92 x93 x94 x95 x96 x97 x98 x99 x100 x101 x102 x103 x104 x105 x106 x107 x108 x109 x110 x111 x112 x113 x114 x115 x116 x117 x118 x119 x120 x121 x122 x123 x124 x125 x126 x127 x128 x129 x130 x131 x132 : Value} {Q : Exit → Act → World → Prop} {W : World} {a : Option Addr} {l c i : Nat} (hi : i ≤ l)
    (hN : ∀ (y75 y76 y77 y78 : Value), i < l → Q .normal ⟨#[x0, x1, x2, x3, x4, x5, x6, x7, x8, x9, x10, x11, x12, .slice a l c, x14, x15, .int .i64 (i : Int), x17, x18, x19, x20, x21, x22, x23, x24, x25, x26, x27, x28, x29, x30, x31, x32, x33, x34, x35, x36, x37, x38, x39, x40, x41, x42, x43, x44, x45, x46, x47, x48, x49, x50, x51, x52, x53, x54, x55, x56, x57, x58, x59, x60, x61, x62, x63, x64, x65, x66, x67, x68, x69, x70, x71, x72, x73, x74, y75, y76, y77, y78, x79, x80, x81, x82, x83, x84, x85, x86, x87, x88, x89, x90, x91, x92, x93, x94, x95, x96, x97, x98, x99, x100, x101, x102, x103, x104, x105, x106, x107, x108, x109, x110, x111, x112, x113, x114, x115, x116, x117, x118, x119, x120, x121, x122, x123, x124, x125, x126, x127, x128, x129, x130, x131, x132], []⟩ W)
    (hE : ∀ (y75 y76 y77 y78 : Value), i = l → Q (.exit 0) ⟨#[x0, x1, x2, x3, x4, x5, x6, x7, x8, x9, x10, x11, x12, .slice a l c, x14, x15, .int .i64 (i : Int), x17, x18, x19, x20, x21, x22, x23, x24, x25, x26, x27, x28, x29, x30, x31, x32, x33, x34, x35, x36, x37, x38, x39, x40, x41, x42, x43, x44, x45, x46, x47, x48, x49, x50, x51, x52, x53, x54, x55, x56, x57, x58, x59, x60, x61, x62, x63, x64, x65, x66, x67, x68, x69, x70, x71, x72, x73, x74, y75, y76, y77, y78, x79, x80, x81, x82, x83, x84, x85, x86, x87, x88, x89, x90, x91, x92, x93, x94, x95, x96, x97, x98, x99, x100, x101, x102, x103, x104, x105, x106, x107, x108, x109, x110, x111, x112, x113, x114, x115, x116, x117, x118, x119, x120, x121, x122, x123, x124, x125, x126, x127, x128, x129, x130, x131, x132], []⟩ W) :
    Code.wp Try.prog (((Try.f5.body.bind (pcLoop 0)).bind (pcAt 13)).getD .skip) Q ⟨#[x0, x1, x2, x3, x4, x5, x6, x7, x8, x9, x10, x11, x12, .slice a l c, x14, x15, .int .i64 (i : Int), x17, x18, x19, x20, x21, x22, x23, x24, x25, x26, x27, x28, x29, x30, x31, x32, x33, x34, x35, x36, x37, x38, x39, x40, x41, x42, x43, x44, x45, x46, x47, x48, x49, x50, x51, x52, x53, x54, x55, x56, x57, x58, x59, x60, x61, x62, x63, x64, x65, x66, x67, x68, x69, x70, x71, x72, x73, x74, x75, x76, x77, x78, x79, x80, x81, x82, x83, x84, x85, x86, x87, x88, x89, x90, x91, x92, x93, x94, x95, x96, x97, x98, x99, x100, x101, x102, x103, x104, x105, x106, x107, x108, x109, x110, x111, x112, x113, x114, x115, x116, x117, x118, x119, x120, x121, x122, x123, x124, x125, x126, x127, x128, x129, x130, x131, x132], []⟩ W := by
  conv => arg 2; whnf
  have HN : Hid (∀ (y75 y76 y77 y78 : Value), i < l → Q .normal ⟨#[x0, x1, x2, x3, x4, x5, x6, x7, x8, x9, x10, x11, x12, .slice a l c, x14, x15, .int .i64 (i : Int), x17, x18, x19, x20, x21, x22, x23, x24, x25, x26, x27, x28, x29, x30, x31, x32, x33, x34, x35, x36, x37, x38, x39, x40, x41, x42, x43, x44, x45, x46, x47, x48, x49, x50, x51, x52, x53, x54, x55, x56, x57, x58, x59, x60, x61, x62, x63, x64, x65, x66, x67, x68, x69, x70, x71, x72, x73, x74, y75, y76, y77, y78, x79, x80, x81, x82, x83, x84, x85, x86, x87, x88, x89, x90, x91, x92, x93, x94, x95, x96, x97, x98, x99, x100, x101, x102, x103, x104, x105, x106, x107, x108, x109, x110, x111, x112, x113, x114, x115, x116, x117, x118, x119, x120, x121, x122, x123, x124, x125, x126, x127, x128, x129, x130, x131, x132], []⟩ W) := hN
  have HE : Hid (∀ (y75 y76 y77 y78 : Value), i = l → Q (.exit 0) ⟨#[x0, x1, x2, x3, x4, x5, x6, x7, x8, x9, x10, x11, x12, .slice a l c, x14, x15, .int .i64 (i : Int), x17, x18, x19, x20, x21, x22, x23, x24, x25, x26, x27, x28, x29, x30, x31, x32, x33, x34, x35, x36, x37, x38, x39, x40, x41, x42, x43, x44, x45, x46, x47, x48, x49, x50, x51, x52, x53, x54, x55, x56, x57, x58, x59, x60, x61, x62, x63, x64, x65, x66, x67, x68, x69, x70, x71, x72, x73, x74, y75, y76, y77, y78, x79, x80, x81, x82, x83, x84, x85, x86, x87, x88, x89, x90, x91, x92, x93, x94, x95, x96, x97, x98, x99, x100, x101, x102, x103, x104, x105, x106, x107, x108, x109, x110, x111, x112, x113, x114, x115, x116, x117, x118, x119, x120, x121, x122, x123, x124, x125, x126, x127, x128, x129, x130, x131, x132], []⟩ W) := hE
  clear hN hE
  by_cases hlt : i < l
  · have hlti : (i : Int) < (l : Int) := by omega
    clear HE
    go_wp2_with fail
    exact HN.out  _ _ _ _ hlt
  · have hlti : decide (i < l) = false := decide_eq_false hlt
    have HE2 : Hid (i = l) := by show _ = _; omega
    clear HN hi
    go_wp2_with fail
    exact HE.out  _ _ _ _ HE2.out

set_option maxRecDepth 100000 in
set_option maxHeartbeats 12800000 in
theorem tu_t19 {x0 x1 x2 x3 x4 x5 x6 x7 x8 x9 x10 x12 x13 x14 x15 x16 x18 x19 x20 x21 x22 x23 x24 x25 x26 x27 x28 x29 x30 x31 x32 x33 x34 x35 x36 x37 x38 x39 x40 x41 x42 x43 x44 x45 x46 x47 x48 x49 x50 x51 x52 x53 x54 x55 x56 x57 x58 x59 x60 x61 x62 x63 x64 x65 x66 x67 x68 x69 x70 x71 x72 x73 x74 x75 x76 x77 x78 x79 x80 x81 x82 x83 x84 x85 x86 x87 x88 x89 x90 x91 x92 x93 x94 x95 x96 x97 x98 x99 x100 x101 x102 x103 x104 x105 x106 x107 x108 x109 x110 x111 x112 x113 x114 x115 x116 x117 x118 x119 x120 x121 x122 x123 x124 x125 x126 x127 x128 x129 x130 x131 x132 : Value} {Q : Exit → Act → World → Prop} {W : World} {a : Option Addr} {l c i : Nat} (hi : i ≤ l)
    (hN : ∀ (y104 y105 y106 y107 : Value), i < l → Q .normal ⟨#[x0, x1, x2, x3, x4, x5, x6, x7, x8, x9, x10, .slice a l c, x12, x13, x14, x15, x16, .int .i64 (i : Int), x18, x19, x20, x21, x22, x23, x24, x25, x26, x27, x28, x29, x30, x31, x32, x33, x34, x35, x36, x37, x38, x39, x40, x41, x42, x43, x44, x45, x46, x47, x48, x49, x50, x51, x52, x53, x54, x55, x56, x57, x58, x59, x60, x61, x62, x63, x64, x65, x66, x67, x68, x69, x70, x71, x72, x73, x74, x75, x76, x77, x78, x79, x80, x81, x82, x83, x84, x85, x86, x87, x88, x89, x90, x91, x92, x93, x94, x95, x96, x97, x98, x99, x100, x101, x102, x103, y104, y105, y106, y107, x108, x109, x110, x111, x112, x113, x114, x115, x116, x117, x118, x119, x120, x121, x122, x123, x124, x125, x126, x127, x128, x129, x130, x131, x132], []⟩ W)
    (hE : ∀ (y104 y105 y106 y107 : Value), i = l → Q (.exit 2) ⟨#[x0, x1, x2, x3, x4, x5, x6, x7, x8, x9, x10, .slice a l c, x12, x13, x14, x15, x16, .int .i64 (i : Int), x18, x19, x20, x21, x22, x23, x24, x25, x26, x27, x28, x29, x30, x31, x32, x33, x34, x35, x36, x37, x38, x39, x40, x41, x42, x43, x44, x45, x46, x47, x48, x49, x50, x51, x52, x53, x54, x55, x56, x57, x58, x59, x60, x61, x62, x63, x64, x65, x66, x67, x68, x69, x70, x71, x72, x73, x74, x75, x76, x77, x78, x79, x80, x81, x82, x83, x84, x85, x86, x87, x88, x89, x90, x91, x92, x93, x94, x95, x96, x97, x98, x99, x100, x101, x102, x103, y104, y105, y106, y107, x108, x109, x110, x111, x112, x113, x114, x115, x116, x117, x118, x119, x120, x121, x122, x123, x124, x125, x126, x127, x128, x129, x130, x131, x132], []⟩ W) :
    Code.wp Try.prog (((Try.f5.body.bind (pcLoop 2)).bind (pcAt 19)).getD .skip) Q ⟨#[x0, x1, x2, x3, x4, x5, x6, x7, x8, x9, x10, .slice a l c, x12, x13, x14, x15, x16, .int .i64 (i : Int), x18, x19, x20, x21, x22, x23, x24, x25, x26, x27, x28, x29, x30, x31, x32, x33, x34, x35, x36, x37, x38, x39, x40, x41, x42, x43, x44, x45, x46, x47, x48, x49, x50, x51, x52, x53, x54, x55, x56, x57, x58, x59, x60, x61, x62, x63, x64, x65, x66, x67, x68, x69, x70, x71, x72, x73, x74, x75, x76, x77, x78, x79, x80, x81, x82, x83, x84, x85, x86, x87, x88, x89, x90, x91, x92, x93, x94, x95, x96, x97, x98, x99, x100, x101, x102, x103, x104, x105, x106, x107, x108, x109, x110, x111, x112, x113, x114, x115, x116, x117, x118, x119, x120, x121, x122, x123, x124, x125, x126, x127, x128, x129, x130, x131, x132], []⟩ W := by
  conv => arg 2; whnf
  have HN : Hid (∀ (y104 y105 y106 y107 : Value), i < l → Q .normal ⟨#[x0, x1, x2, x3, x4, x5, x6, x7, x8, x9, x10, .slice a l c, x12, x13, x14, x15, x16, .int .i64 (i : Int), x18, x19, x20, x21, x22, x23, x24, x25, x26, x27, x28, x29, x30, x31, x32, x33, x34, x35, x36, x37, x38, x39, x40, x41, x42, x43, x44, x45, x46, x47, x48, x49, x50, x51, x52, x53, x54, x55, x56, x57, x58, x59, x60, x61, x62, x63, x64, x65, x66, x67, x68, x69, x70, x71, x72, x73, x74, x75, x76, x77, x78, x79, x80, x81, x82, x83, x84, x85, x86, x87, x88, x89, x90, x91, x92, x93, x94, x95, x96, x97, x98, x99, x100, x101, x102, x103, y104, y105, y106, y107, x108, x109, x110, x111, x112, x113, x114, x115, x116, x117, x118, x119, x120, x121, x122, x123, x124, x125, x126, x127, x128, x129, x130, x131, x132], []⟩ W) := hN
  have HE : Hid (∀ (y104 y105 y106 y107 : Value), i = l → Q (.exit 2) ⟨#[x0, x1, x2, x3, x4, x5, x6, x7, x8, x9, x10, .slice a l c, x12, x13, x14, x15, x16, .int .i64 (i : Int), x18, x19, x20, x21, x22, x23, x24, x25, x26, x27, x28, x29, x30, x31, x32, x33, x34, x35, x36, x37, x38, x39, x40, x41, x42, x43, x44, x45, x46, x47, x48, x49, x50, x51, x52, x53, x54, x55, x56, x57, x58, x59, x60, x61, x62, x63, x64, x65, x66, x67, x68, x69, x70, x71, x72, x73, x74, x75, x76, x77, x78, x79, x80, x81, x82, x83, x84, x85, x86, x87, x88, x89, x90, x91, x92, x93, x94, x95, x96, x97, x98, x99, x100, x101, x102, x103, y104, y105, y106, y107, x108, x109, x110, x111, x112, x113, x114, x115, x116, x117, x118, x119, x120, x121, x122, x123, x124, x125, x126, x127, x128, x129, x130, x131, x132], []⟩ W) := hE
  clear hN hE
  by_cases hlt : i < l
  · have hlti : (i : Int) < (l : Int) := by omega
    clear HE
    go_wp2_with fail
    exact HN.out  _ _ _ _ hlt
  · have hlti : decide (i < l) = false := decide_eq_false hlt
    have HE2 : Hid (i = l) := by show _ = _; omega
    clear HN hi
    go_wp2_with fail
    exact HE.out  _ _ _ _ HE2.out

set_option maxRecDepth 100000 in
set_option maxHeartbeats 12800000 in
theorem tu_p14 {x0 x1 x2 x3 x4 x5 x6 x7 x8 x9 x10 x11 x12 x13 x14 x15 x17 x18 x19 x20 x21 x22 x23 x24 x25 x26 x27 x28 x29 x30 x31 x32 x33 x34 x35 x36 x37 x38 x39 x40 x41 x42 x43 x44 x45 x46 x47 x48 x49 x50 x51 x52 x53 x54 x55 x56 x57 x58 x59 x60 x61 x62 x63 x64 x65 x66 x67 x68 x69 x70 x71 x72 x73 x74 x75 x76 x77 x78 x79 x80 x81 x82 x83 x84 x85 x86 x87 x88 x89 x90 x91 x92 x93 x94 x95 x96 x97 x98 x99 x100 x101 x102 x103 x104 x105 x106 x107 x108 x109 x110 x111 x112 x113 x114 x115 x116 x117 x118 x119 x120 x121 x122 x123 x124 x125 x126 x127 x128 x129 x130 x131 x132 : Value} {Q : Exit → Act → World → Prop} {W : World} {i : Nat} (h : i < 9223372036854775807)
    (hN : ∀ (y79 y80 : Value), Q .normal ⟨#[x0, x1, x2, x3, x4, x5, x6, x7, x8, x9, x10, x11, x12, x13, x14, x15, .int .i64 ((i + 1 : Nat) : Int), x17, x18, x19, x20, x21, x22, x23, x24, x25, x26, x27, x28, x29, x30, x31, x32, x33, x34, x35, x36, x37, x38, x39, x40, x41, x42, x43, x44, x45, x46, x47, x48, x49, x50, x51, x52, x53, x54, x55, x56, x57, x58, x59, x60, x61, x62, x63, x64, x65, x66, x67, x68, x69, x70, x71, x72, x73, x74, x75, x76, x77, x78, y79, y80, x81, x82, x83, x84, x85, x86, x87, x88, x89, x90, x91, x92, x93, x94, x95, x96, x97, x98, x99, x100, x101, x102, x103, x104, x105, x106, x107, x108, x109, x110, x111, x112, x113, x114, x115, x116, x117, x118, x119, x120, x121, x122, x123, x124, x125, x126, x127, x128, x129, x130, x131, x132], []⟩ W) :
    Code.wp Try.prog (((Try.f5.body.bind (pcLoop 0)).bind (pcAt 14)).getD .skip) Q ⟨#[x0, x1, x2, x3, x4, x5, x6, x7, x8, x9, x10, x11, x12, x13, x14, x15, .int .i64 (i : Int), x17, x18, x19, x20, x21, x22, x23, x24, x25, x26, x27, x28, x29, x30, x31, x32, x33, x34, x35, x36, x37, x38, x39, x40, x41, x42, x43, x44, x45, x46, x47, x48, x49, x50, x51, x52, x53, x54, x55, x56, x57, x58, x59, x60, x61, x62, x63, x64, x65, x66, x67, x68, x69, x70, x71, x72, x73, x74, x75, x76, x77, x78, x79, x80, x81, x82, x83, x84, x85, x86, x87, x88, x89, x90, x91, x92, x93, x94, x95, x96, x97, x98, x99, x100, x101, x102, x103, x104, x105, x106, x107, x108, x109, x110, x111, x112, x113, x114, x115, x116, x117, x118, x119, x120, x121, x122, x123, x124, x125, x126, x127, x128, x129, x130, x131, x132], []⟩ W := by
  conv => arg 2; whnf
  have HN : Hid (∀ (y79 y80 : Value), Q .normal ⟨#[x0, x1, x2, x3, x4, x5, x6, x7, x8, x9, x10, x11, x12, x13, x14, x15, .int .i64 ((i + 1 : Nat) : Int), x17, x18, x19, x20, x21, x22, x23, x24, x25, x26, x27, x28, x29, x30, x31, x32, x33, x34, x35, x36, x37, x38, x39, x40, x41, x42, x43, x44, x45, x46, x47, x48, x49, x50, x51, x52, x53, x54, x55, x56, x57, x58, x59, x60, x61, x62, x63, x64, x65, x66, x67, x68, x69, x70, x71, x72, x73, x74, x75, x76, x77, x78, y79, y80, x81, x82, x83, x84, x85, x86, x87, x88, x89, x90, x91, x92, x93, x94, x95, x96, x97, x98, x99, x100, x101, x102, x103, x104, x105, x106, x107, x108, x109, x110, x111, x112, x113, x114, x115, x116, x117, x118, x119, x120, x121, x122, x123, x124, x125, x126, x127, x128, x129, x130, x131, x132], []⟩ W) := hN
  clear hN
  have e : ((i + 1 : Nat) : Int) = (i : Int) + 1 := by omega
  rw [e] at HN
  go_wp2_with fail
  exact HN.out  _ _ 

set_option maxRecDepth 100000 in
set_option maxHeartbeats 12800000 in
theorem tu_p20 {x0 x1 x2 x3 x4 x5 x6 x7 x8 x9 x10 x11 x12 x13 x14 x15 x16 x18 x19 x20 x21 x22 x23 x24 x25 x26 x27 x28 x29 x30 x31 x32 x33 x34 x35 x36 x37 x38 x39 x40 x41 x42 x43 x44 x45 x46 x47 x48 x49 x50 x51 x52 x53 x54 x55 x56 x57 x58 x59 x60 x61 x62 x63 x64 x65 x66 x67 x68 x69 x70 x71 x72 x73 x74 x75 x76 x77 x78 x79 x80 x81 x82 x83 x84 x85 x86 x87 x88 x89 x90 x91 x92 x93 x94 x95 x96 x97 x98 x99 x100 x101 x102 x103 x104 x105 x106 x107 x108 x109 x110 x111 x112 x113 x114 x115 x116 x117 x118 x119 x120 x121 x122 x123 x124 x125 x126 x127 x128 x129 x130 x131 x132 : Value} {Q : Exit → Act → World → Prop} {W : World} {i : Nat} (h : i < 9223372036854775807)
    (hN : ∀ (y108 y109 : Value), Q .normal ⟨#[x0, x1, x2, x3, x4, x5, x6, x7, x8, x9, x10, x11, x12, x13, x14, x15, x16, .int .i64 ((i + 1 : Nat) : Int), x18, x19, x20, x21, x22, x23, x24, x25, x26, x27, x28, x29, x30, x31, x32, x33, x34, x35, x36, x37, x38, x39, x40, x41, x42, x43, x44, x45, x46, x47, x48, x49, x50, x51, x52, x53, x54, x55, x56, x57, x58, x59, x60, x61, x62, x63, x64, x65, x66, x67, x68, x69, x70, x71, x72, x73, x74, x75, x76, x77, x78, x79, x80, x81, x82, x83, x84, x85, x86, x87, x88, x89, x90, x91, x92, x93, x94, x95, x96, x97, x98, x99, x100, x101, x102, x103, x104, x105, x106, x107, y108, y109, x110, x111, x112, x113, x114, x115, x116, x117, x118, x119, x120, x121, x122, x123, x124, x125, x126, x127, x128, x129, x130, x131, x132], []⟩ W) :
    Code.wp Try.prog (((Try.f5.body.bind (pcLoop 2)).bind (pcAt 20)).getD .skip) Q ⟨#[x0, x1, x2, x3, x4, x5, x6, x7, x8, x9, x10, x11, x12, x13, x14, x15, x16, .int .i64 (i : Int), x18, x19, x20, x21, x22, x23, x24, x25, x26, x27, x28, x29, x30, x31, x32, x33, x34, x35, x36, x37, x38, x39, x40, x41, x42, x43, x44, x45, x46, x47, x48, x49, x50, x51, x52, x53, x54, x55, x56, x57, x58, x59, x60, x61, x62, x63, x64, x65, x66, x67, x68, x69, x70, x71, x72, x73, x74, x75, x76, x77, x78, x79, x80, x81, x82, x83, x84, x85, x86, x87, x88, x89, x90, x91, x92, x93, x94, x95, x96, x97, x98, x99, x100, x101, x102, x103, x104, x105, x106, x107, x108, x109, x110, x111, x112, x113, x114, x115, x116, x117, x118, x119, x120, x121, x122, x123, x124, x125, x126, x127, x128, x129, x130, x131, x132], []⟩ W := by
  conv => arg 2; whnf
  have HN : Hid (∀ (y108 y109 : Value), Q .normal ⟨#[x0, x1, x2, x3, x4, x5, x6, x7, x8, x9, x10, x11, x12, x13, x14, x15, x16, .int .i64 ((i + 1 : Nat) : Int), x18, x19, x20, x21, x22, x23, x24, x25, x26, x27, x28, x29, x30, x31, x32, x33, x34, x35, x36, x37, x38, x39, x40, x41, x42, x43, x44, x45, x46, x47, x48, x49, x50, x51, x52, x53, x54, x55, x56, x57, x58, x59, x60, x61, x62, x63, x64, x65, x66, x67, x68, x69, x70, x71, x72, x73, x74, x75, x76, x77, x78, x79, x80, x81, x82, x83, x84, x85, x86, x87, x88, x89, x90, x91, x92, x93, x94, x95, x96, x97, x98, x99, x100, x101, x102, x103, x104, x105, x106, x107, y108, y109, x110, x111, x112, x113, x114, x115, x116, x117, x118, x119, x120, x121, x122, x123, x124, x125, x126, x127, x128, x129, x130, x131, x132], []⟩ W) := hN
  clear hN
  have e : ((i + 1 : Nat) : Int) = (i : Int) + 1 := by omega
  rw [e] at HN
  go_wp2_with fail
  exact HN.out  _ _ 

set_option maxRecDepth 100000 in
set_option maxHeartbeats 12800000 in
theorem tu_p15 {x0 x1 x2 x3 x4 x5 x6 x7 x9 x10 x11 x12 x14 x15 x17 x18 x19 x20 x21 x22 x23 x24 x25 x26 x27 x28 x29 x30 x31 x32 x33 x34 x35 x36 x37 x38 x39 x40 x41 x42 x43 x44 x45 x46 x47 x48 x49 x50 x51 x52 x53 x54 x55 x56 x57 x58 x59 x60 x61 x62 x63 x64 x65 x66 x67 x68 x69 x70 x71 x72 x73 x74 x75 x76 x77 x78 x79 x80 x81 x82 x83 x84 x85 x86 x87 x88 x89 x90 x91 x92 x93 x94 x95 x96 x97 x98 x99 x100 x101 x102 x103 x104 x105 x106 x107 x108 x109 x110 x111 x112 x113 x114 x115 x116 x117 x118 x119 x120 x121 x122 x123 x124 x125 x126 x127 x128 x129 x130 x131 x132 : Value} {Q : Exit → Act → World → Prop} {W : World} {b off l c i n : Nat} {y : Nat} (hz : W.cell? ⟨b, off + i, none⟩ = some (.int .i64 (y : Int))) (hi : i < l) (hy : y < n)
    (hN : ∀ (y6 y81 y82 y83 y84 y85 y86 y87 y88 y89 y90 y91 y92 y93 : Value), Q .normal ⟨#[x0, x1, x2, x3, x4, x5, y6, x7, .int .i64 (n : Int), x9, x10, x11, x12, .slice (some ⟨b, off, none⟩) l c, x14, x15, .int .i64 (i : Int), x17, x18, x19, x20, x21, x22, x23, x24, x25, x26, x27, x28, x29, x30, x31, x32, x33, x34, x35, x36, x37, x38, x39, x40, x41, x42, x43, x44, x45, x46, x47, x48, x49, x50, x51, x52, x53, x54, x55, x56, x57, x58, x59, x60, x61, x62, x63, x64, x65, x66, x67, x68, x69, x70, x71, x72, x73, x74, x75, x76, x77, x78, x79, x80, y81, y82, y83, y84, y85, y86, y87, y88, y89, y90, y91, y92, y93, x94, x95, x96, x97, x98, x99, x100, x101, x102, x103, x104, x105, x106, x107, x108, x109, x110, x111, x112, x113, x114, x115, x116, x117, x118, x119, x120, x121, x122, x123, x124, x125, x126, x127, x128, x129, x130, x131, x132], []⟩ W) :
    Code.wp Try.prog (((Try.f5.body.bind (pcBlk 1)).bind (pcAt 15)).getD .skip) Q ⟨#[x0, x1, x2, x3, x4, x5, x6, x7, .int .i64 (n : Int), x9, x10, x11, x12, .slice (some ⟨b, off, none⟩) l c, x14, x15, .int .i64 (i : Int), x17, x18, x19, x20, x21, x22, x23, x24, x25, x26, x27, x28, x29, x30, x31, x32, x33, x34, x35, x36, x37, x38, x39, x40, x41, x42, x43, x44, x45, x46, x47, x48, x49, x50, x51, x52, x53, x54, x55, x56, x57, x58, x59, x60, x61, x62, x63, x64, x65, x66, x67, x68, x69, x70, x71, x72, x73, x74, x75, x76, x77, x78, x79, x80, x81, x82, x83, x84, x85, x86, x87, x88, x89, x90, x91, x92, x93, x94, x95, x96, x97, x98, x99, x100, x101, x102, x103, x104, x105, x106, x107, x108, x109, x110, x111, x112, x113, x114, x115, x116, x117, x118, x119, x120, x121, x122, x123, x124, x125, x126, x127, x128, x129, x130, x131, x132], []⟩ W := by
  conv => arg 2; whnf
  have HN : Hid (∀ (y6 y81 y82 y83 y84 y85 y86 y87 y88 y89 y90 y91 y92 y93 : Value), Q .normal ⟨#[x0, x1, x2, x3, x4, x5, y6, x7, .int .i64 (n : Int), x9, x10, x11, x12, .slice (some ⟨b, off, none⟩) l c, x14, x15, .int .i64 (i : Int), x17, x18, x19, x20, x21, x22, x23, x24, x25, x26, x27, x28, x29, x30, x31, x32, x33, x34, x35, x36, x37, x38, x39, x40, x41, x42, x43, x44, x45, x46, x47, x48, x49, x50, x51, x52, x53, x54, x55, x56, x57, x58, x59, x60, x61, x62, x63, x64, x65, x66, x67, x68, x69, x70, x71, x72, x73, x74, x75, x76, x77, x78, x79, x80, y81, y82, y83, y84, y85, y86, y87, y88, y89, y90, y91, y92, y93, x94, x95, x96, x97, x98, x99, x100, x101, x102, x103, x104, x105, x106, x107, x108, x109, x110, x111, x112, x113, x114, x115, x116, x117, x118, x119, x120, x121, x122, x123, x124, x125, x126, x127, x128, x129, x130, x131, x132], []⟩ W) := hN
  clear hN
  have hi1 : (i : Int) < (l : Int) := by omega
  have hi0 : (0 : Int) ≤ (i : Int) := by omega
  have hy1 : (y : Int) < (n : Int) := by omega
  have hy0 : (0 : Int) ≤ (y : Int) := by omega
  have d0 : decide ((y : Int) < 0) = false := decide_eq_false (by omega)
  have d1 : decide ((n : Int) ≤ (y : Int)) = false := decide_eq_false (by omega)
  have d2 : decide (n ≤ y) = false := decide_eq_false (by omega)
  clear hi hy
  go_wp2_with fail
  exact HN.out  _ _ _ _ _ _ _ _ _ _ _ _ _ _ 

set_option maxRecDepth 100000 in
set_option maxHeartbeats 12800000 in
theorem tu_p17 {x0 x1 x2 x3 x4 x5 x6 x7 x10 x11 x12 x14 x17 x18 x19 x20 x21 x22 x23 x24 x25 x26 x27 x28 x29 x30 x31 x32 x33 x34 x35 x36 x37 x38 x39 x40 x41 x42 x43 x44 x45 x46 x47 x48 x49 x50 x51 x52 x53 x54 x55 x56 x57 x58 x59 x60 x61 x62 x63 x64 x65 x66 x67 x68 x69 x70 x71 x72 x73 x74 x75 x76 x77 x78 x79 x80 x81 x82 x83 x84 x85 x86 x87 x88 x89 x90 x91 x92 x93 x94 x95 x96 x97 x98 x99 x100 x101 x102 x103 x104 x105 x106 x107 x108 x109 x110 x111 x112 x113 x114 x115 x116 x117 x118 x119 x120 x121 x122 x123 x124 x125 x126 x127 x128 x129 x130 x131 x132 : Value} {Q : Exit → Act → World → Prop} {W : World} {b off l c i n : Nat} {y k g : Nat} {L : List Bool} (hz : W.cell? ⟨b, off + i, none⟩ = some (.int .i64 (y : Int))) (hi : i < l) (hy : y < n) (hk : k < n) (hn : n ≤ 500) (hL : BBk W g L) (hl : L.length = n)
    (hN : ∀ (y94 y95 y96 y97 y98 y99 y100 y101 y102 y103 : Value), Q .normal ⟨#[x0, x1, x2, x3, x4, x5, x6, x7, .int .i64 (n : Int), .int .i64 (k : Int), x10, x11, x12, .slice (some ⟨b, off, none⟩) l c, x14, .slice (some ⟨g, 0, none⟩) n n, .int .i64 (i : Int), x17, x18, x19, x20, x21, x22, x23, x24, x25, x26, x27, x28, x29, x30, x31, x32, x33, x34, x35, x36, x37, x38, x39, x40, x41, x42, x43, x44, x45, x46, x47, x48, x49, x50, x51, x52, x53, x54, x55, x56, x57, x58, x59, x60, x61, x62, x63, x64, x65, x66, x67, x68, x69, x70, x71, x72, x73, x74, x75, x76, x77, x78, x79, x80, x81, x82, x83, x84, x85, x86, x87, x88, x89, x90, x91, x92, x93, y94, y95, y96, y97, y98, y99, y100, y101, y102, y103, x104, x105, x106, x107, x108, x109, x110, x111, x112, x113, x114, x115, x116, x117, x118, x119, x120, x121, x122, x123, x124, x125, x126, x127, x128, x129, x130, x131, x132], []⟩ (W.setCell ⟨g, (y + k) % n, none⟩ (.bool true))) :
    Code.wp Try.prog (((Try.f5.body.bind (pcBlk 1)).bind (pcFrom 17)).getD .skip) Q ⟨#[x0, x1, x2, x3, x4, x5, x6, x7, .int .i64 (n : Int), .int .i64 (k : Int), x10, x11, x12, .slice (some ⟨b, off, none⟩) l c, x14, .slice (some ⟨g, 0, none⟩) n n, .int .i64 (i : Int), x17, x18, x19, x20, x21, x22, x23, x24, x25, x26, x27, x28, x29, x30, x31, x32, x33, x34, x35, x36, x37, x38, x39, x40, x41, x42, x43, x44, x45, x46, x47, x48, x49, x50, x51, x52, x53, x54, x55, x56, x57, x58, x59, x60, x61, x62, x63, x64, x65, x66, x67, x68, x69, x70, x71, x72, x73, x74, x75, x76, x77, x78, x79, x80, x81, x82, x83, x84, x85, x86, x87, x88, x89, x90, x91, x92, x93, x94, x95, x96, x97, x98, x99, x100, x101, x102, x103, x104, x105, x106, x107, x108, x109, x110, x111, x112, x113, x114, x115, x116, x117, x118, x119, x120, x121, x122, x123, x124, x125, x126, x127, x128, x129, x130, x131, x132], []⟩ W := by
  conv => arg 2; whnf
  have HN : Hid (∀ (y94 y95 y96 y97 y98 y99 y100 y101 y102 y103 : Value), Q .normal ⟨#[x0, x1, x2, x3, x4, x5, x6, x7, .int .i64 (n : Int), .int .i64 (k : Int), x10, x11, x12, .slice (some ⟨b, off, none⟩) l c, x14, .slice (some ⟨g, 0, none⟩) n n, .int .i64 (i : Int), x17, x18, x19, x20, x21, x22, x23, x24, x25, x26, x27, x28, x29, x30, x31, x32, x33, x34, x35, x36, x37, x38, x39, x40, x41, x42, x43, x44, x45, x46, x47, x48, x49, x50, x51, x52, x53, x54, x55, x56, x57, x58, x59, x60, x61, x62, x63, x64, x65, x66, x67, x68, x69, x70, x71, x72, x73, x74, x75, x76, x77, x78, x79, x80, x81, x82, x83, x84, x85, x86, x87, x88, x89, x90, x91, x92, x93, y94, y95, y96, y97, y98, y99, y100, y101, y102, y103, x104, x105, x106, x107, x108, x109, x110, x111, x112, x113, x114, x115, x116, x117, x118, x119, x120, x121, x122, x123, x124, x125, x126, x127, x128, x129, x130, x131, x132], []⟩ (W.setCell ⟨g, (y + k) % n, none⟩ (.bool true))) := hN
  clear hN
  have hi1 : (i : Int) < (l : Int) := by omega
  have hi0 : (0 : Int) ≤ (i : Int) := by omega
  have hm : (y + k) % n < n := Nat.mod_lt _ (by omega)
  obtain ⟨t, ht⟩ : ∃ t, t = (y + k) % n := ⟨_, rfl⟩
  have e1 : IntKind.i64.wrap ((y : Int) + (k : Int)) = (y : Int) + (k : Int) := by rw [IntKind.wrap_i64]; omega
  have e2 : ((y : Int) + (k : Int)).tmod (n : Int) = (t : Int) := by rw [Int.tmod_eq_emod_of_nonneg (by omega), ht]; push_cast; rfl
  have e3 : IntKind.i64.wrap (t : Int) = (t : Int) := by rw [IntKind.wrap_i64]; omega
  have e4 : ((n : Int) == 0) = false := by simp; omega
  have e5 : ¬ ((n : Int) = 0) := by omega
  have e6 : ((y : Int) + (k : Int)) % (n : Int) = (t : Int) := by rw [ht]; push_cast; rfl
  rw [← ht] at HN hm
  have hm1 : (t : Int) < (n : Int) := by omega
  have hm0 : (0 : Int) ≤ (t : Int) := by omega
  have c1 := hL.cell (j := t) (by omega)
  have f1 := hL.frozen t
  clear hi hy hk hn hL hl ht
  go_wp2_with fail
  exact HN.out  _ _ _ _ _ _ _ _ _ _ 

set_option maxRecDepth 100000 in
set_option maxHeartbeats 12800000 in
theorem tu_p21 {x0 x1 x2 x3 x4 x5 x6 x7 x9 x10 x12 x13 x14 x16 x18 x19 x20 x21 x22 x23 x24 x25 x26 x27 x28 x29 x30 x31 x32 x33 x34 x35 x36 x37 x38 x39 x40 x41 x42 x43 x44 x45 x46 x47 x48 x49 x50 x51 x52 x53 x54 x55 x56 x57 x58 x59 x60 x61 x62 x63 x64 x65 x66 x67 x68 x69 x70 x71 x72 x73 x74 x75 x76 x77 x78 x79 x80 x81 x82 x83 x84 x85 x86 x87 x88 x89 x90 x91 x92 x93 x94 x95 x96 x97 x98 x99 x100 x101 x102 x103 x104 x105 x106 x107 x108 x109 x110 x111 x112 x113 x114 x115 x116 x117 x118 x119 x120 x121 x122 x123 x124 x125 x126 x127 x128 x129 x130 x131 x132 : Value} {Q : Exit → Act → World → Prop} {W : World} {b off l c i n : Nat} {y g : Nat} {L : List Bool} (hz : W.cell? ⟨b, off + i, none⟩ = some (.int .i64 (y : Int))) (hi : i < l) (hy : y < n) (hL : BBk W g L) (hl : L.length = n) (ht : L.getD y false = true)
    (hN : ∀ (y6 y110 y111 y112 y113 y114 y115 y116 y117 y118 y119 y120 y121 y122 y123 y124 y125 y126 y127 y128 y129 y130 y131 y132 : Value), Q .normal ⟨#[x0, x1, x2, x3, x4, x5, y6, x7, .int .i64 (n : Int), x9, x10, .slice (some ⟨b, off, none⟩) l c, x12, x13, x14, .slice (some ⟨g, 0, none⟩) n n, x16, .int .i64 (i : Int), x18, x19, x20, x21, x22, x23, x24, x25, x26, x27, x28, x29, x30, x31, x32, x33, x34, x35, x36, x37, x38, x39, x40, x41, x42, x43, x44, x45, x46, x47, x48, x49, x50, x51, x52, x53, x54, x55, x56, x57, x58, x59, x60, x61, x62, x63, x64, x65, x66, x67, x68, x69, x70, x71, x72, x73, x74, x75, x76, x77, x78, x79, x80, x81, x82, x83, x84, x85, x86, x87, x88, x89, x90, x91, x92, x93, x94, x95, x96, x97, x98, x99, x100, x101, x102, x103, x104, x105, x106, x107, x108, x109, y110, y111, y112, y113, y114, y115, y116, y117, y118, y119, y120, y121, y122, y123, y124, y125, y126, y127, y128, y129, y130, y131, y132], []⟩ W) :
    Code.wp Try.prog (((Try.f5.body.bind (pcBlk 3)).bind (pcFrom 21)).getD .skip) Q ⟨#[x0, x1, x2, x3, x4, x5, x6, x7, .int .i64 (n : Int), x9, x10, .slice (some ⟨b, off, none⟩) l c, x12, x13, x14, .slice (some ⟨g, 0, none⟩) n n, x16, .int .i64 (i : Int), x18, x19, x20, x21, x22, x23, x24, x25, x26, x27, x28, x29, x30, x31, x32, x33, x34, x35, x36, x37, x38, x39, x40, x41, x42, x43, x44, x45, x46, x47, x48, x49, x50, x51, x52, x53, x54, x55, x56, x57, x58, x59, x60, x61, x62, x63, x64, x65, x66, x67, x68, x69, x70, x71, x72, x73, x74, x75, x76, x77, x78, x79, x80, x81, x82, x83, x84, x85, x86, x87, x88, x89, x90, x91, x92, x93, x94, x95, x96, x97, x98, x99, x100, x101, x102, x103, x104, x105, x106, x107, x108, x109, x110, x111, x112, x113, x114, x115, x116, x117, x118, x119, x120, x121, x122, x123, x124, x125, x126, x127, x128, x129, x130, x131, x132], []⟩ W := by
  conv => arg 2; whnf
  have HN : Hid (∀ (y6 y110 y111 y112 y113 y114 y115 y116 y117 y118 y119 y120 y121 y122 y123 y124 y125 y126 y127 y128 y129 y130 y131 y132 : Value), Q .normal ⟨#[x0, x1, x2, x3, x4, x5, y6, x7, .int .i64 (n : Int), x9, x10, .slice (some ⟨b, off, none⟩) l c, x12, x13, x14, .slice (some ⟨g, 0, none⟩) n n, x16, .int .i64 (i : Int), x18, x19, x20, x21, x22, x23, x24, x25, x26, x27, x28, x29, x30, x31, x32, x33, x34, x35, x36, x37, x38, x39, x40, x41, x42, x43, x44, x45, x46, x47, x48, x49, x50, x51, x52, x53, x54, x55, x56, x57, x58, x59, x60, x61, x62, x63, x64, x65, x66, x67, x68, x69, x70, x71, x72, x73, x74, x75, x76, x77, x78, x79, x80, x81, x82, x83, x84, x85, x86, x87, x88, x89, x90, x91, x92, x93, x94, x95, x96, x97, x98, x99, x100, x101, x102, x103, x104, x105, x106, x107, x108, x109, y110, y111, y112, y113, y114, y115, y116, y117, y118, y119, y120, y121, y122, y123, y124, y125, y126, y127, y128, y129, y130, y131, y132], []⟩ W) := hN
  clear hN
  have hi1 : (i : Int) < (l : Int) := by omega
  have hi0 : (0 : Int) ≤ (i : Int) := by omega
  have hy1 : (y : Int) < (n : Int) := by omega
  have hy0 : (0 : Int) ≤ (y : Int) := by omega
  have d0 : decide ((y : Int) < 0) = false := decide_eq_false (by omega)
  have d1 : decide ((n : Int) ≤ (y : Int)) = false := decide_eq_false (by omega)
  have d2 : decide (n ≤ y) = false := decide_eq_false (by omega)
  have c1 := hL.cell (j := y) (by omega)
  rw [ht] at c1
  clear hi hy hL hl ht
  go_wp2_with fail
  exact HN.out  _ _ _ _ _ _ _ _ _ _ _ _ _ _ _ _ _ _ _ _ _ _ _ _ 

end Go.Proofs.Ytchmlfjjgehbkaa

namespace Go.Proofs.Ytchmlfjjgehbkaa
open Go.RowKit

theorem turned_at {ss : List (Int × Int)} {k i : Nat} (hk : k < ss.length) (hi : i < ss.length) : (ss.drop k ++ ss.take k).getD i (0, 0) = ss.getD ((i + k) % ss.length) (0, 0) := by
  by_cases c : i + k < ss.length
  · rw [Nat.mod_eq_of_lt c]
    simp only [List.getD, List.getElem?_append, List.length_drop]
    rw [if_pos (by omega), List.getElem?_drop, Nat.add_comm]
  · rw [Nat.mod_eq_sub_mod (by omega), Nat.mod_eq_of_lt (by omega)]
    simp only [List.getD, List.getElem?_append, List.length_drop]
    rw [if_neg (by omega), List.getElem?_take, if_pos (by omega), show i - (ss.length - k) = i + k - ss.length by omega]
theorem turned_len {ss : List (Int × Int)} {k : Nat} (hk : k < ss.length) : (ss.drop k ++ ss.take k).length = ss.length := by simp; omega
theorem turned_arg {l γ A B : Int} {ss : List (Int × Int)} {k : Nat} (hk : k < ss.length) : BestArg l γ A B (ss.drop k ++ ss.take k) ↔ BestArg l γ A B ss := by
  constructor
  · intro h
    refine ⟨h.lam, h.gam, h.all, by have := h.few; rwa [turned_len hk] at this, fun j hj => ?_⟩
    obtain ⟨i, hi, e⟩ : ∃ i, i < ss.length ∧ (i + k) % ss.length = j := by
      by_cases c : k ≤ j
      · exact ⟨j - k, by omega, by rw [show j - k + k = j by omega]; exact Nat.mod_eq_of_lt hj⟩
      · refine ⟨j + ss.length - k, by omega, ?_⟩
        rw [show j + ss.length - k + k = j + ss.length by omega, Nat.add_mod_right]
        exact Nat.mod_eq_of_lt hj
    have := h.each i (by rw [turned_len hk]; exact hi)
    rw [turned_at hk hi, e] at this
    exact this
  · intro h
    refine ⟨h.lam, h.gam, h.all, by rw [turned_len hk]; exact h.few, fun j hj => ?_⟩
    rw [turned_len hk] at hj
    rw [turned_at hk hj]
    exact h.each _ (Nat.mod_lt _ (by omega))
theorem turned_best {l γ A B e f : Int} {ss : List (Int × Int)} {k : Nat} {xs ys : List Int} (hk : k < ss.length) (h : ResBest17 l γ A B ss e xs) (h' : ResBest17 l γ A B (ss.drop k ++ ss.take k) f ys) :
    e = f ∧ xs.length = ys.length ∧ (∀ y ∈ ys, 0 ≤ y ∧ y < (ss.length : Int)) ∧ (∀ x ∈ xs, 0 ≤ x ∧ x < (ss.length : Int)) ∧ ∀ x ∈ xs, ∃ y ∈ ys, (y + k) % (ss.length : Int) = x := by
  rcases h with ⟨h1, rfl, rfl⟩ | ⟨h1, rfl, h3⟩ <;> rcases h' with ⟨k1, rfl, rfl⟩ | ⟨k1, rfl, k3⟩
  · exact ⟨rfl, rfl, fun y hy => (by cases hy), fun y hy => (by cases hy), fun y hy => (by cases hy)⟩
  · exact absurd ((turned_arg hk).1 k1) h1
  · exact absurd ((turned_arg hk).2 h1) k1
  · rw [turned_len hk] at k3
    exact ⟨rfl, turned17 (by omega) (fun i hi => by unfold fBest17; rw [turned_at hk hi]) h3 k3⟩

set_option maxRecDepth 100000 in
set_option maxHeartbeats 12800000 in
theorem tu_l1 {x0 x1 x2 x3 x4 x5 x6 x7 x10 x11 x12 x14 x16 x17 x18 x19 x20 x21 x22 x23 x24 x25 x26 x27 x28 x29 x30 x31 x32 x33 x34 x35 x36 x37 x38 x39 x40 x41 x42 x43 x44 x45 x46 x47 x48 x49 x50 x51 x52 x53 x54 x55 x56 x57 x58 x59 x60 x61 x62 x63 x64 x65 x66 x67 x68 x69 x70 x71 x72 x73 x74 x75 x76 x77 x78 x79 x80 x81 x82 x83 x84 x85 x86 x87 x88 x89 x90 x91 x92 x93 x94 x95 x96 x97 x98 x99 x100 x101 x102 x103 x104 x105 x106 x107 x108 x109 x110 x111 x112 x113 x114 x115 x116 x117 x118 x119 x120 x121 x122 x123 x124 x125 x126 x127 x128 x129 x130 x131 x132 : Value} {Q : Exit → Act → World → Prop} {W V : World} {a : Option Addr} {l c n k g : Nat} {ys : List Int} (h : Lsts V a l c ys) (hV : Below V.heap.size V W) (hvg : V.heap.size ≤ g) (hg : BBk W g (List.replicate n false)) (hy : ∀ y ∈ ys, 0 ≤ y ∧ y < (n : Int)) (hk : k < n) (hn : n ≤ 500)
    (hN : ∀ (L : List Bool) (wx : World) (y6 y16 y75 y76 y77 y78 y79 y80 y81 y82 y83 y84 y85 y86 y87 y88 y89 y90 y91 y92 y93 y94 y95 y96 y97 y98 y99 y100 y101 y102 y103 : Value), BBk wx g L → L.length = n → (∀ y ∈ ys, L.getD ((y.toNat + k) % n) false = true) → Below V.heap.size V wx → Q .normal ⟨#[x0, x1, x2, x3, x4, x5, y6, x7, .int .i64 (n : Int), .int .i64 (k : Int), x10, x11, x12, .slice a l c, x14, .slice (some ⟨g, 0, none⟩) n n, y16, x17, x18, x19, x20, x21, x22, x23, x24, x25, x26, x27, x28, x29, x30, x31, x32, x33, x34, x35, x36, x37, x38, x39, x40, x41, x42, x43, x44, x45, x46, x47, x48, x49, x50, x51, x52, x53, x54, x55, x56, x57, x58, x59, x60, x61, x62, x63, x64, x65, x66, x67, x68, x69, x70, x71, x72, x73, x74, y75, y76, y77, y78, y79, y80, y81, y82, y83, y84, y85, y86, y87, y88, y89, y90, y91, y92, y93, y94, y95, y96, y97, y98, y99, y100, y101, y102, y103, x104, x105, x106, x107, x108, x109, x110, x111, x112, x113, x114, x115, x116, x117, x118, x119, x120, x121, x122, x123, x124, x125, x126, x127, x128, x129, x130, x131, x132], []⟩ wx) :
    Code.wp Try.prog ((Try.f5.body.bind (pcAt 12)).getD .skip) Q ⟨#[x0, x1, x2, x3, x4, x5, x6, x7, .int .i64 (n : Int), .int .i64 (k : Int), x10, x11, x12, .slice a l c, x14, .slice (some ⟨g, 0, none⟩) n n, x16, x17, x18, x19, x20, x21, x22, x23, x24, x25, x26, x27, x28, x29, x30, x31, x32, x33, x34, x35, x36, x37, x38, x39, x40, x41, x42, x43, x44, x45, x46, x47, x48, x49, x50, x51, x52, x53, x54, x55, x56, x57, x58, x59, x60, x61, x62, x63, x64, x65, x66, x67, x68, x69, x70, x71, x72, x73, x74, x75, x76, x77, x78, x79, x80, x81, x82, x83, x84, x85, x86, x87, x88, x89, x90, x91, x92, x93, x94, x95, x96, x97, x98, x99, x100, x101, x102, x103, x104, x105, x106, x107, x108, x109, x110, x111, x112, x113, x114, x115, x116, x117, x118, x119, x120, x121, x122, x123, x124, x125, x126, x127, x128, x129, x130, x131, x132], []⟩ W := by
  conv => arg 2; whnf
  have HN : Hid (∀ (L : List Bool) (wx : World) (y6 y16 y75 y76 y77 y78 y79 y80 y81 y82 y83 y84 y85 y86 y87 y88 y89 y90 y91 y92 y93 y94 y95 y96 y97 y98 y99 y100 y101 y102 y103 : Value), BBk wx g L → L.length = n → (∀ y ∈ ys, L.getD ((y.toNat + k) % n) false = true) → Below V.heap.size V wx → Q .normal ⟨#[x0, x1, x2, x3, x4, x5, y6, x7, .int .i64 (n : Int), .int .i64 (k : Int), x10, x11, x12, .slice a l c, x14, .slice (some ⟨g, 0, none⟩) n n, y16, x17, x18, x19, x20, x21, x22, x23, x24, x25, x26, x27, x28, x29, x30, x31, x32, x33, x34, x35, x36, x37, x38, x39, x40, x41, x42, x43, x44, x45, x46, x47, x48, x49, x50, x51, x52, x53, x54, x55, x56, x57, x58, x59, x60, x61, x62, x63, x64, x65, x66, x67, x68, x69, x70, x71, x72, x73, x74, y75, y76, y77, y78, y79, y80, y81, y82, y83, y84, y85, y86, y87, y88, y89, y90, y91, y92, y93, y94, y95, y96, y97, y98, y99, y100, y101, y102, y103, x104, x105, x106, x107, x108, x109, x110, x111, x112, x113, x114, x115, x116, x117, x118, x119, x120, x121, x122, x123, x124, x125, x126, x127, x128, x129, x130, x131, x132], []⟩ wx) := hN
  clear hN
  have hln := h.hlen
  have hm := h.hmax
  have hc := h.hcap
  unfold maxLen at hm
  refine pcSeq (fun Q1 n1 r1 _ => ?_)
  go_wp2_with fail
  refine n1 _ _ (pcBlock (fun Q2 n2 e2 r2 => ?_))
  go_loopw [16] (fun v16 wr => ∃ i : Nat, v16 = .int .i64 (i : Int) ∧ i ≤ l ∧ Below V.heap.size V wr ∧ ∃ L : List Bool, BBk wr g L ∧ L.length = n ∧ ∀ j, j < i → L.getD (((ys.getD j 0).toNat + k) % n) false = true) (fun v16 _ => l - (intOf v16).toNat)
  case atStart => exact ⟨0, rfl, Nat.zero_le _, hV, _, hg, by simp, fun j hj => absurd hj (by omega)⟩
  case round =>
    obtain ⟨i, rfl, hi, hbr, L, hL, hLn, hall⟩ := hrel
    refine pcSeq (fun Q3 n3 r3 e3 => tu_t13 hi ?_ ?_)
    · intros
      rename_i hlt
      refine n3 _ _ (pcSeq (fun Q4 n4 r4 e4 => pcBlock (fun Q5 n5 e5 r5 => ?_)))
      obtain ⟨b, off, rfl, hz⟩ := (h.below hbr).cells (by omega)
      have hmem : ys.getD i 0 ∈ ys := by
        rw [List.getD, List.getElem?_eq_getElem (by omega)]
        exact List.getElem_mem _
      obtain ⟨y0, y1⟩ := hy _ hmem
      obtain ⟨y, ey⟩ : ∃ y : Nat, ys.getD i 0 = (y : Int) := ⟨(ys.getD i 0).toNat, by omega⟩
      have hzi := hz i hlt
      rw [ey] at hzi y1
      refine pcSeq (fun Q6 n6 r6 e6 => tu_p15 hzi hlt (by omega) ?_)
      intros
      refine n6 _ _ (tu_p17 hzi hlt (by omega) hk hn hL hLn ?_)
      intros
      have ht : (y + k) % n < n := Nat.mod_lt _ (by omega)
      refine n5 _ _ (n4 _ _ (tu_p14 (by omega) ?_))
      intros
      dsimp only [Exit.then]
      go_roundw
      case rel => exact ⟨i + 1, rfl, by omega, below_setB hbr hvg _ _, _, hL.set _ true, by rw [List.length_set]; exact hLn, fun j hj => by
        by_cases e : j = i
        · rw [e, ey, Int.toNat_natCast]
          simp [List.getD, hLn, ht]
        · have h9 := hall j (by omega)
          simp only [List.getD, List.getElem?_set] at h9 ⊢
          by_cases e8 : (y + k) % n = (((ys[j]?).getD 0).toNat + k) % n
          · rw [if_pos e8, if_pos (by omega)]; rfl
          · rw [if_neg e8]; exact h9⟩
      case measure => simp [intOf]; omega
    · intros
      rename_i he
      subst he
      refine e3 _ _ _ (e2 _ _ (HN.out L _ _ _ _ _ _ _ _ _ _ _ _ _ _ _ _ _ _ _ _ _ _ _ _ _ _ _ _ _ _ _ _ hL hLn (fun y hy2 => ?_) hbr))
      obtain ⟨j, hj, rfl⟩ := List.getElem_of_mem hy2
      have h9 := hall j (by omega)
      rw [show ys.getD j 0 = ys[j] by simp [List.getD, hj]] at h9
      exact h9

set_option maxRecDepth 100000 in
set_option maxHeartbeats 12800000 in
theorem tu_l2 {x0 x1 x2 x3 x4 x5 x6 x7 x9 x10 x12 x13 x14 x16 x17 x18 x19 x20 x21 x22 x23 x24 x25 x26 x27 x28 x29 x30 x31 x32 x33 x34 x35 x36 x37 x38 x39 x40 x41 x42 x43 x44 x45 x46 x47 x48 x49 x50 x51 x52 x53 x54 x55 x56 x57 x58 x59 x60 x61 x62 x63 x64 x65 x66 x67 x68 x69 x70 x71 x72 x73 x74 x75 x76 x77 x78 x79 x80 x81 x82 x83 x84 x85 x86 x87 x88 x89 x90 x91 x92 x93 x94 x95 x96 x97 x98 x99 x100 x101 x102 x103 x104 x105 x106 x107 x108 x109 x110 x111 x112 x113 x114 x115 x116 x117 x118 x119 x120 x121 x122 x123 x124 x125 x126 x127 x128 x129 x130 x131 x132 : Value} {Q : Exit → Act → World → Prop} {W : World} {a : Option Addr} {l c n g : Nat} {xs : List Int} {L : List Bool} (h : Lsts W a l c xs) (hg : BBk W g L) (hL : L.length = n) (hy : ∀ x ∈ xs, 0 ≤ x ∧ x < (n : Int)) (ht : ∀ x ∈ xs, L.getD x.toNat false = true)
    (hN : ∀ (y6 y17 y104 y105 y106 y107 y108 y109 y110 y111 y112 y113 y114 y115 y116 y117 y118 y119 y120 y121 y122 y123 y124 y125 y126 y127 y128 y129 y130 y131 y132 : Value), Q .normal ⟨#[x0, x1, x2, x3, x4, x5, y6, x7, .int .i64 (n : Int), x9, x10, .slice a l c, x12, x13, x14, .slice (some ⟨g, 0, none⟩) n n, x16, y17, x18, x19, x20, x21, x22, x23, x24, x25, x26, x27, x28, x29, x30, x31, x32, x33, x34, x35, x36, x37, x38, x39, x40, x41, x42, x43, x44, x45, x46, x47, x48, x49, x50, x51, x52, x53, x54, x55, x56, x57, x58, x59, x60, x61, x62, x63, x64, x65, x66, x67, x68, x69, x70, x71, x72, x73, x74, x75, x76, x77, x78, x79, x80, x81, x82, x83, x84, x85, x86, x87, x88, x89, x90, x91, x92, x93, x94, x95, x96, x97, x98, x99, x100, x101, x102, x103, y104, y105, y106, y107, y108, y109, y110, y111, y112, y113, y114, y115, y116, y117, y118, y119, y120, y121, y122, y123, y124, y125, y126, y127, y128, y129, y130, y131, y132], []⟩ W) :
    Code.wp Try.prog ((Try.f5.body.bind (pcAt 18)).getD .skip) Q ⟨#[x0, x1, x2, x3, x4, x5, x6, x7, .int .i64 (n : Int), x9, x10, .slice a l c, x12, x13, x14, .slice (some ⟨g, 0, none⟩) n n, x16, x17, x18, x19, x20, x21, x22, x23, x24, x25, x26, x27, x28, x29, x30, x31, x32, x33, x34, x35, x36, x37, x38, x39, x40, x41, x42, x43, x44, x45, x46, x47, x48, x49, x50, x51, x52, x53, x54, x55, x56, x57, x58, x59, x60, x61, x62, x63, x64, x65, x66, x67, x68, x69, x70, x71, x72, x73, x74, x75, x76, x77, x78, x79, x80, x81, x82, x83, x84, x85, x86, x87, x88, x89, x90, x91, x92, x93, x94, x95, x96, x97, x98, x99, x100, x101, x102, x103, x104, x105, x106, x107, x108, x109, x110, x111, x112, x113, x114, x115, x116, x117, x118, x119, x120, x121, x122, x123, x124, x125, x126, x127, x128, x129, x130, x131, x132], []⟩ W := by
  conv => arg 2; whnf
  have HN : Hid (∀ (y6 y17 y104 y105 y106 y107 y108 y109 y110 y111 y112 y113 y114 y115 y116 y117 y118 y119 y120 y121 y122 y123 y124 y125 y126 y127 y128 y129 y130 y131 y132 : Value), Q .normal ⟨#[x0, x1, x2, x3, x4, x5, y6, x7, .int .i64 (n : Int), x9, x10, .slice a l c, x12, x13, x14, .slice (some ⟨g, 0, none⟩) n n, x16, y17, x18, x19, x20, x21, x22, x23, x24, x25, x26, x27, x28, x29, x30, x31, x32, x33, x34, x35, x36, x37, x38, x39, x40, x41, x42, x43, x44, x45, x46, x47, x48, x49, x50, x51, x52, x53, x54, x55, x56, x57, x58, x59, x60, x61, x62, x63, x64, x65, x66, x67, x68, x69, x70, x71, x72, x73, x74, x75, x76, x77, x78, x79, x80, x81, x82, x83, x84, x85, x86, x87, x88, x89, x90, x91, x92, x93, x94, x95, x96, x97, x98, x99, x100, x101, x102, x103, y104, y105, y106, y107, y108, y109, y110, y111, y112, y113, y114, y115, y116, y117, y118, y119, y120, y121, y122, y123, y124, y125, y126, y127, y128, y129, y130, y131, y132], []⟩ W) := hN
  clear hN
  have hln := h.hlen
  have hm := h.hmax
  have hc := h.hcap
  unfold maxLen at hm
  refine pcSeq (fun Q1 n1 r1 _ => ?_)
  go_wp2_with fail
  refine n1 _ _ (pcBlock (fun Q2 n2 e2 r2 => ?_))
  go_loopw [17] (fun v17 wr => wr = W ∧ ∃ i : Nat, v17 = .int .i64 (i : Int) ∧ i ≤ l) (fun v17 _ => l - (intOf v17).toNat)
  case atStart => exact ⟨rfl, 0, rfl, Nat.zero_le _⟩
  case round =>
    obtain ⟨rfl, i, rfl, hi⟩ := hrel
    refine pcSeq (fun Q3 n3 r3 e3 => tu_t19 hi ?_ ?_)
    · intros
      rename_i hlt
      refine n3 _ _ (pcSeq (fun Q4 n4 r4 e4 => pcBlock (fun Q5 n5 e5 r5 => ?_)))
      obtain ⟨b, off, rfl, hz⟩ := h.cells (by omega)
      have hmem : xs.getD i 0 ∈ xs := by
        rw [List.getD, List.getElem?_eq_getElem (by omega)]
        exact List.getElem_mem _
      obtain ⟨y0, y1⟩ := hy _ hmem
      have ht1 := ht _ hmem
      obtain ⟨y, ey⟩ : ∃ y : Nat, xs.getD i 0 = (y : Int) := ⟨(xs.getD i 0).toNat, by omega⟩
      have hzi := hz i hlt
      rw [ey] at hzi y1 ht1
      rw [Int.toNat_natCast] at ht1
      refine tu_p21 hzi hlt (by omega) hg hL ht1 ?_
      intros
      refine n5 _ _ (n4 _ _ (tu_p20 (by omega) ?_))
      intros
      dsimp only [Exit.then]
      go_roundw
      case rel => exact ⟨rfl, i + 1, rfl, by omega⟩
      case measure => simp [intOf]; omega
    · intros
      rename_i he
      subst he
      exact e3 _ _ _ (e2 _ _ (HN.out  _ _ _ _ _ _ _ _ _ _ _ _ _ _ _ _ _ _ _ _ _ _ _ _ _ _ _ _ _ _ _ ))

set_option maxRecDepth 100000 in
theorem tu_ret {x0 x1 x2 x3 x4 x5 x7 x8 x9 x10 x11 x12 x13 x14 x15 x16 x17 x18 x19 x20 x21 x22 x23 x24 x25 x26 x27 x28 x29 x30 x31 x32 x33 x34 x35 x36 x37 x38 x39 x40 x41 x42 x43 x44 x45 x46 x47 x48 x49 x50 x51 x52 x53 x54 x55 x56 x57 x58 x59 x60 x61 x62 x63 x64 x65 x66 x67 x68 x69 x70 x71 x72 x73 x74 x75 x76 x77 x78 x79 x80 x81 x82 x83 x84 x85 x86 x87 x88 x89 x90 x91 x92 x93 x94 x95 x96 x97 x98 x99 x100 x101 x102 x103 x104 x105 x106 x107 x108 x109 x110 x111 x112 x113 x114 x115 x116 x117 x118 x119 x120 x121 x122 x123 x124 x125 x126 x127 x128 x129 x130 x131 x132 : Value}  {post : Ending → World → Prop} {W : World} (h : post (.returned (.bool true)) W) : bodyPost Try.prog Try.f5 post .ret ⟨#[x0, x1, x2, x3, x4, x5, .bool true, x7, x8, x9, x10, x11, x12, x13, x14, x15, x16, x17, x18, x19, x20, x21, x22, x23, x24, x25, x26, x27, x28, x29, x30, x31, x32, x33, x34, x35, x36, x37, x38, x39, x40, x41, x42, x43, x44, x45, x46, x47, x48, x49, x50, x51, x52, x53, x54, x55, x56, x57, x58, x59, x60, x61, x62, x63, x64, x65, x66, x67, x68, x69, x70, x71, x72, x73, x74, x75, x76, x77, x78, x79, x80, x81, x82, x83, x84, x85, x86, x87, x88, x89, x90, x91, x92, x93, x94, x95, x96, x97, x98, x99, x100, x101, x102, x103, x104, x105, x106, x107, x108, x109, x110, x111, x112, x113, x114, x115, x116, x117, x118, x119, x120, x121, x122, x123, x124, x125, x126, x127, x128, x129, x130, x131, x132], []⟩ W :=
  bodyPost_ret (v := .bool true) (by simp [results, Try.results5, go_sem]) rfl h

set_option maxRecDepth 100000 in
set_option maxHeartbeats 12800000 in
theorem turned17_walk (OS : ScoOk17) (OB : BesOk17) (x y A B : Int) (a : Option Addr) (n c : Nat) (ss : List (Int × Int)) (w : World) (h0 : (-9223372036854775808 ≤ x ∧ x < 9223372036854775808)) (h1 : (-9223372036854775808 ≤ y ∧ y < 9223372036854775808)) (h2 : (-9223372036854775808 ≤ A ∧ A < 9223372036854775808)) (h3 : (-9223372036854775808 ≤ B ∧ B < 9223372036854775808)) (hr : SRows w a n c ss) : Calls Try.prog 5 #[.agg #[.int .i64 x, .int .i64 y], .agg #[.int .i64 (A), .int .i64 (B)], .slice a n c] w fun e w' => e = .returned (.bool true) ∧ Below w.heap.size w w' := by
  go_enter Try.func5, Try.ntmps5
  refine pcSeq (fun Q0 n0 r0 _ => tu_p0 ?_)
  intro g h w1
  intros
  rename_i hc hd hV
  replace hr := hr.below hV
  refine n0 _ _ (pcSeq (fun Q1 n1 r1 _ => tu_p1 OS ?_))
  intro w2
  intros
  rename_i b2
  replace hV := bthen hV b2
  replace hr := hr.below b2
  replace hc := And.intro (bkeep b2 hc.1 rfl) (bkeep b2 hc.2 rfl)
  replace hd := And.intro (bkeep b2 hd.1 rfl) (bkeep b2 hd.2 rfl)
  refine n1 _ _ (pcSeq (fun Q2 n2 r2 _ => tu_p2 ?_))
  intros
  refine n2 _ _ (pcSeq (fun Q3 n3 r3 _ => tu_p3 ?_ ?_))
  rotate_left
  · intros
    exact r3 _ _ (tu_ret ⟨rfl, hV⟩)
  intros
  rename_i hn
  have hln := hr.hlen
  have hk : n / 2 < n := by omega
  obtain ⟨b, off, rfl, -⟩ := hr.cells (by omega)
  refine n3 _ _ (pcSeq (fun Q4 n4 r4 _ => tu_p5 hn.2 ?_))
  intros
  refine n4 _ _ (pcSeq (fun Q5 n5 r5 _ => tu_p6 hr hk hn.2 ?_))
  intro q m w3
  intros
  rename_i hr2 b3
  replace hV := bthen hV b3
  replace hr := hr.below b3
  replace hc := And.intro (bkeep b3 hc.1 rfl) (bkeep b3 hc.2 rfl)
  replace hd := And.intro (bkeep b3 hd.1 rfl) (bkeep b3 hd.2 rfl)
  refine n5 _ _ (pcSeq (fun Q6 n6 r6 _ => tu_p7 OB hc hd hr h0 h1 h2 h3 ?_))
  intro p1 l1 c1 xs e1 w4
  intros
  rename_i hL1 hR1 b4
  replace hV := bthen hV b4
  replace hr2 := hr2.below b4
  replace hc := And.intro (bkeep b4 hc.1 rfl) (bkeep b4 hc.2 rfl)
  replace hd := And.intro (bkeep b4 hd.1 rfl) (bkeep b4 hd.2 rfl)
  refine n6 _ _ (pcSeq (fun Q7 n7 r7 _ => tu_p8 OB hc hd hr2 h0 h1 h2 h3 ?_))
  intro p2 l2 c2 ys e2 w5
  intros
  rename_i hL2 hR2 b5
  replace hV := bthen hV b5
  replace hL1 := hL1.below b5
  obtain ⟨rfl, el, ty, tx, tm⟩ := turned_best (by omega) hR1 hR2
  rw [hln] at ty tx tm
  have el2 : l1 = l2 := hL1.hlen.symm.trans (el.trans hL2.hlen)
  subst el2
  refine n7 _ _ (pcSeq (fun Q8 n8 r8 _ => tu_p9 ?_))
  intros
  refine n8 _ _ (pcSeq (fun Q9 n9 r9 _ => tu_p11 hn.2 ?_))
  intro mg w6
  intros
  rename_i hM hmg b6
  refine n9 _ _ (pcSeq (fun Q10 n10 r10 _ => tu_l1 hL2 b6 hmg hM ty hk hn.2 ?_))
  intro L w7
  intros
  rename_i hM2 hLn hall b7
  replace hV := bthen hV b7
  refine n10 _ _ (pcSeq (fun Q11 n11 r11 _ => tu_l2 (hL1.below b7) hM2 hLn tx (fun x hx => ?_) ?_))
  · obtain ⟨y, hy, e⟩ := tm x hx
    have h5 := hall y hy
    have h6 := ty y hy
    rw [← e]
    have e9 : ((y + ((n / 2 : Nat) : Int)) % (n : Int)).toNat = (y.toNat + n / 2) % n := by
      obtain ⟨z, rfl⟩ : ∃ z : Nat, y = (z : Int) := ⟨y.toNat, by omega⟩
      rw [Int.toNat_natCast]
      have : ((z : Int) + ((n / 2 : Nat) : Int)) % (n : Int) = (((z + n / 2) % n : Nat) : Int) := by push_cast; rfl
      rw [this, Int.toNat_natCast]
    rw [e9]
    exact h5
  intros
  refine n11 _ _ (tu_p23 ?_)
  intros
  exact tu_ret ⟨rfl, hV⟩
end Go.Proofs.Ytchmlfjjgehbkaa

/-
  Tables in memory: rows of rows of whole numbers; a table's value.
  Contracts of the document's place and RightIds (dataset).
  The document's Right of tables, its statements. Written by mk/r15right.py.
  The document's Right of tables. Written by mk/r15right.py.
  The document's Same of tables. Written by mk/r15same.py.
  Rows of rows of whole numbers whose block holds slices alone; rows of whole numbers, appended whole.
-/
import Derived.Test.YtaiikhbfnfcalaaB14A
import Derived.Test.YtaiikhbfnfcalaaW12B
import Derived.Test.YtaiikhbfnfcalaaPieces
import Derived.BigQuiet
import Derived.ArgAppend
import Derived.Lib.AppendZeros
namespace Go.Proofs.Ytaiikhbfnfcalaa
open Go.RowKit

/-- The slice (a, l, c) of rows of whole numbers lies in memory. -/
structure IRows (w : World) (a : Option Addr) (l c : Nat) (Ls : List (List Int)) : Prop where
  hlen : Ls.length = l
  hcap : l ≤ c
  hmax : c ≤ maxLen
  cells : 0 < l → ∃ b off, a = some ⟨b, off, none⟩ ∧ ∀ i, i < l → ∃ p n k, w.cell? ⟨b, off + i, none⟩ = some (.slice p n k) ∧ Lsts w p n k (Ls.getD i [])
theorem IRows.below {w w' : World} {a : Option Addr} {l c : Nat} {Ls : List (List Int)} (h : IRows w a l c Ls) (hb : Below w.heap.size w w') : IRows w' a l c Ls :=
  ⟨h.hlen, h.hcap, h.hmax, fun hp => by
    obtain ⟨b, off, e, hc⟩ := h.cells hp
    refine ⟨b, off, e, fun i hi => ?_⟩
    obtain ⟨p, n, k, h1, h2⟩ := hc i hi
    exact ⟨p, n, k, (hb.cell (World.block_lt_of_cell? w _ h1)).trans h1, h2.below hb⟩⟩
theorem IRows.nil (w : World) : IRows w none 0 0 [] := ⟨rfl, Nat.le_refl _, Nat.zero_le _, fun h => absurd h (Nat.lt_irrefl _)⟩
/-- Where a table's three lists lie. -/
structure TV where
  p0 : Option Addr
  l0 : Nat
  c0 : Nat
  p1 : Option Addr
  l1 : Nat
  c1 : Nat
  p2 : Option Addr
  l2 : Nat
  c2 : Nat
def TV.cells (v : TV) : Array Value := #[.slice v.p0 v.l0 v.c0, .slice v.p1 v.l1 v.c1, .slice v.p2 v.l2 v.c2]
def TV.none : TV := ⟨Option.none, 0, 0, Option.none, 0, 0, Option.none, 0, 0⟩
structure TabAt (w : World) (v : TV) (t : Tab) : Prop where
  ids : Lsts w v.p0 v.l0 v.c0 t.ids
  bins : Lsts w v.p1 v.l1 v.c1 t.bins
  cols : IRows w v.p2 v.l2 v.c2 t.cols
theorem TabAt.below {w w' : World} {v : TV} {t : Tab} (h : TabAt w v t) (hb : Below w.heap.size w w') : TabAt w' v t := ⟨h.ids.below hb, h.bins.below hb, h.cols.below hb⟩
theorem TabAt.none (w : World) : TabAt w TV.none Tab.none := ⟨Lsts.nil _, Lsts.nil _, IRows.nil _⟩
/-- A block of memory that holds a table. -/
def TVar (w : World) (g : Nat) (v : TV) : Prop := w.heap[g]? = some (.cells v.cells 25 (0, 0))
theorem TVar.cells {w : World} {g : Nat} {v : TV} (h : TVar w g v) : w.cell? ⟨g, 0, none⟩ = some (.slice v.p0 v.l0 v.c0) ∧ w.cell? ⟨g, 1, none⟩ = some (.slice v.p1 v.l1 v.c1) ∧ w.cell? ⟨g, 2, none⟩ = some (.slice v.p2 v.l2 v.c2) ∧ ∀ j, w.frozen? ⟨g, j, none⟩ = false :=
  ⟨by rw [cell_of_row w g _ _ _ _ h]; rfl, by rw [cell_of_row w g _ _ _ _ h]; rfl, by rw [cell_of_row w g _ _ _ _ h]; rfl, fun j => frozen_of_row w g j _ _ h⟩
theorem TVar.lt {w : World} {g : Nat} {v : TV} (h : TVar w g v) : g < w.heap.size := (Array.getElem?_eq_some_iff.1 h).1
theorem TVar.below {w w' : World} {g : Nat} {v : TV} (h : TVar w g v) (hb : Below w.heap.size w w') : TVar w' g v := (hb.block g h.lt).trans h
theorem TVar.new (w : World) (v : TV) : TVar (w.alloc (.cells v.cells 25)) w.heap.size v := heap_alloc_new _ _
/-- The slice (a, l, c) of tables lies in memory. -/
structure TRows (w : World) (a : Option Addr) (l c : Nat) (ts : List Tab) : Prop where
  hlen : ts.length = l
  hcap : l ≤ c
  hmax : c ≤ maxLen
  cells : 0 < l → ∃ b off, a = some ⟨b, off, none⟩ ∧ ∀ i, i < l → ∃ v : TV, (w.cell? ⟨b, off + i * 3, none⟩ = some (.slice v.p0 v.l0 v.c0) ∧ w.cell? ⟨b, off + i * 3 + 1, none⟩ = some (.slice v.p1 v.l1 v.c1) ∧ w.cell? ⟨b, off + i * 3 + 2, none⟩ = some (.slice v.p2 v.l2 v.c2)) ∧ TabAt w v (ts.getD i Tab.none)
theorem TRows.below {w w' : World} {a : Option Addr} {l c : Nat} {ts : List Tab} (h : TRows w a l c ts) (hb : Below w.heap.size w w') : TRows w' a l c ts :=
  ⟨h.hlen, h.hcap, h.hmax, fun hp => by
    obtain ⟨b, off, e, hc⟩ := h.cells hp
    refine ⟨b, off, e, fun i hi => ?_⟩
    obtain ⟨v, ⟨h1, h2, h3⟩, h4⟩ := hc i hi
    exact ⟨v, ⟨(hb.cell (World.block_lt_of_cell? w _ h1)).trans h1, (hb.cell (World.block_lt_of_cell? w _ h2)).trans h2, (hb.cell (World.block_lt_of_cell? w _ h3)).trans h3⟩, h4.below hb⟩⟩
end Go.Proofs.Ytaiikhbfnfcalaa

namespace Go.Proofs.Ytaiikhbfnfcalaa
open Go.RowKit

set_option maxRecDepth 20000 in
set_option maxHeartbeats 1600000 in
theorem r15place_any (a : Option Addr) (l c : Nat) (xs : List Int) (x : Int) (w : World) (h : Lsts w a l c xs) : Calls Try.prog 29 #[.slice a l c, .int .i64 x] w fun e w' => e = .returned (.int .i64 (placeI xs x)) ∧ w' = w := by
  have hm := h.hmax
  have hc := h.hcap
  unfold maxLen at hm
  have HL : Hid (xs.length = l) := h.hlen
  have H : Hid (Lsts w a l c xs) := h
  clear h
  go_enter Try.func29, Try.ntmps29
  go_wp2
  go_loopw [5] (fun v5 wr => ∃ k : Nat, k ≤ l ∧ v5 = .int .i64 k ∧ Hid (∀ j, j < k → xs.getD j 0 ≠ x) ∧ wr = w) (fun v5 _ => l - (intOf v5).toNat)
  case atStart => exact ⟨0, by omega, rfl, fun j hj => by omega, rfl⟩
  case round =>
    obtain ⟨k, hk, rfl, HE, rfl⟩ := hrel
    by_cases hlt : k < l
    · have hlti : (k : Int) < (l : Int) := by omega
      have hld : decide (k < l) = true := decide_eq_true hlt
      obtain ⟨b1, o1, rfl, c1⟩ := H.out.cells (by omega)
      replace c1 := c1 k hlt
      obtain ⟨y, hy⟩ : ∃ y, y = xs.getD k 0 := ⟨_, rfl⟩
      rw [← hy] at c1
      have HY : Hid (y = xs.getD k 0) := hy
      clear hy
      by_cases hxy : y = x
      · have hq : (y == x) = true := by simp [hxy]
        have HF : Hid (placeI xs x = (k : Int)) := placeI_is (by rw [HL.out]; exact hlt) (by rw [← HY.out]; exact hxy) HE.out
        clear HE hlt hxy HY
        go_wp2
        go_ret
        exact ⟨by rw [HF.out]; rfl, rfl⟩
      · have hq : (y == x) = false := by simp [hxy]
        have HN : Hid (∀ j, j < k + 1 → xs.getD j 0 ≠ x) := fun j hj => by
          by_cases e : j = k
          · rw [e, ← HY.out]; exact hxy
          · exact HE.out j (by omega)
        clear HE hxy HY
        go_wp2
        go_roundw
        case rel => exact ⟨k + 1, by omega, by go_num, HN.out, trivial⟩
        case measure => simp [intOf]; omega
    · have hld : decide (k < l) = false := decide_eq_false hlt
      have HF : Hid (placeI xs x = -1) := placeI_no (fun j hj => HE.out j (by rw [HL.out] at hj; omega))
      clear HE hlt
      go_wp2
      go_ret
      exact ⟨by rw [HF.out]; rfl, rfl⟩
def IdsT (xs : List Int) (w : World) (e : Ending) (w' : World) : Prop := ∃ b, e = .returned (.bool b) ∧ (b = true ↔ IdsOk xs) ∧ w' = w
theorem idsOk_no {xs : List Int} {k : Nat} (hk : k < xs.length) (h : xs.getD k 0 < 0 ∨ 1073741824 < xs.getD k 0 ∨ placeI xs (xs.getD k 0) ≠ (k : Int)) : ¬ IdsOk xs := fun q => by
  have h1 := q.rng _ (mem_getD hk)
  have h2 := nodup_idx.1 q.nod k hk
  omega
set_option maxRecDepth 20000 in
set_option maxHeartbeats 3200000 in
theorem r15ids_any (a : Option Addr) (l c : Nat) (xs : List Int) (w : World) (h : Lsts w a l c xs) : Calls Try.prog 25 #[.slice a l c] w fun e w' => IdsT xs w e w' := by
  have hm := h.hmax
  have hc := h.hcap
  unfold maxLen at hm
  have HL : Hid (xs.length = l) := h.hlen
  have H : Hid (Lsts w a l c xs) := h
  clear h
  go_enter Try.func25, Try.ntmps25
  by_cases h256 : 256 < l
  · have hd : decide ((256 : Int) < (l : Int)) = true := decide_eq_true (by omega)
    have hd2 : decide (256 < l) = true := decide_eq_true h256
    have HF : Hid (IdsT xs w (.returned (.bool false)) w) := ⟨false, rfl, ⟨fun e => (by cases e), fun q => absurd q.few (by rw [HL.out]; omega)⟩, rfl⟩
    clear h256 H HL
    go_wp2
    go_ret
    exact HF.out
  have hd2 : decide (256 < l) = false := decide_eq_false h256
  have hd : decide ((256 : Int) < (l : Int)) = false := decide_eq_false (by omega)
  go_wp2
  go_loopw [3] (fun v3 wr => ∃ k : Nat, k ≤ l ∧ v3 = .int .i64 k ∧ Hid (∀ j, j < k → (0 ≤ xs.getD j 0 ∧ xs.getD j 0 ≤ 1073741824) ∧ placeI xs (xs.getD j 0) = (j : Int)) ∧ wr = w) (fun v3 _ => l - (intOf v3).toNat)
  case atStart => exact ⟨0, by omega, rfl, fun j hj => by omega, rfl⟩
  case round =>
    obtain ⟨k, hk, rfl, HE, rfl⟩ := hrel
    by_cases hlt : k < l
    · have hlti : (k : Int) < (l : Int) := by omega
      have hld : decide (k < l) = true := decide_eq_true hlt
      have hkl : k < xs.length := by rw [HL.out]; exact hlt
      have HPl := (show Hid _ from r15place_any a l c xs (xs.getD k 0) wr H.out)
      have HNo : Hid ((xs.getD k 0 < 0 ∨ 1073741824 < xs.getD k 0 ∨ placeI xs (xs.getD k 0) ≠ (k : Int)) → ¬ IdsOk xs) := idsOk_no hkl
      obtain ⟨b1, o1, rfl, c1⟩ := H.out.cells (by omega)
      replace c1 := c1 k hlt
      obtain ⟨y, hy⟩ : ∃ y, y = xs.getD k 0 := ⟨_, rfl⟩
      rw [← hy] at c1 HPl HNo
      have HY : Hid (y = xs.getD k 0) := hy
      clear hy hkl
      by_cases h0 : y < 0
      · have h0d : decide (y < 0) = true := decide_eq_true h0
        have HF : Hid (IdsT xs wr (.returned (.bool false)) wr) := ⟨false, rfl, ⟨fun e => (by cases e), fun q => absurd q (HNo.out (.inl h0))⟩, rfl⟩
        clear HE HNo HPl h0 HY hlt
        go_wp2
        go_ret
        exact HF.out
      have h0d : decide (y < 0) = false := decide_eq_false h0
      by_cases h1 : 1073741824 < y
      · have h1d : decide (1073741824 < y) = true := decide_eq_true h1
        have HF : Hid (IdsT xs wr (.returned (.bool false)) wr) := ⟨false, rfl, ⟨fun e => (by cases e), fun q => absurd q (HNo.out (.inr (.inl h1)))⟩, rfl⟩
        clear HE HNo HPl h0 h1 HY hlt
        go_wp2
        go_ret
        exact HF.out
      have h1d : decide (1073741824 < y) = false := decide_eq_false h1
      obtain ⟨P, hP⟩ : ∃ P, P = placeI xs y := ⟨_, rfl⟩
      rw [← hP] at HPl HNo
      have HPe : Hid (P = placeI xs y) := hP
      clear hP
      by_cases h2 : P = (k : Int)
      · have h2d : (P != (k : Int)) = false := by simp [h2]
        have h2e : (P == (k : Int)) = true := by simp [h2]
        have HN : Hid (∀ j, j < k + 1 → (0 ≤ xs.getD j 0 ∧ xs.getD j 0 ≤ 1073741824) ∧ placeI xs (xs.getD j 0) = (j : Int)) := fun j hj => by
          by_cases e : j = k
          · subst e
            have q1 := HY.out
            have q2 := HPe.out
            rw [← q1, ← q2]
            exact ⟨by omega, h2⟩
          · exact HE.out j (by omega)
        clear HE HNo h0 h1 h2 HY HPe
        go_wp2_with fail
        refine Calls.mono HPl.out ?_
        rintro e w2 ⟨rfl, rfl⟩
        clear HPl
        go_wp2
        go_roundw
        case rel => exact ⟨k + 1, by omega, by go_num, HN.out, trivial⟩
        case measure => simp [intOf]; omega
      · have h2d : (P != (k : Int)) = true := by simp [h2]
        have h2e : (P == (k : Int)) = false := by simp [h2]
        have HF : Hid (IdsT xs wr (.returned (.bool false)) wr) := ⟨false, rfl, ⟨fun e => (by cases e), fun q => absurd q (HNo.out (.inr (.inr h2)))⟩, rfl⟩
        clear HE HNo h0 h1 h2 HY HPe hlt
        go_wp2_with fail
        refine Calls.mono HPl.out ?_
        rintro e w2 ⟨rfl, rfl⟩
        clear HPl
        go_wp2
        go_ret
        exact HF.out
    · have hld : decide (k < l) = false := decide_eq_false hlt
      have HF : Hid (IdsT xs wr (.returned (.bool true)) wr) := ⟨true, rfl, ⟨fun _ => ⟨by rw [HL.out]; omega, fun x hx => by
        have h1 := idx_lt.2 hx
        have h2 := HE.out (idx xs x) (by rw [HL.out] at h1; omega)
        rw [idx_get hx] at h2
        exact h2.1, nodup_idx.2 (fun i hi => (HE.out i (by rw [HL.out] at hi; omega)).2)⟩, fun _ => rfl⟩, rfl⟩
      clear HE hlt
      go_wp2
      go_ret
      exact HF.out
end Go.Proofs.Ytaiikhbfnfcalaa

namespace Go.Proofs.Ytaiikhbfnfcalaa
open Go.RowKit

set_option maxRecDepth 100000 in
set_option maxHeartbeats 12800000 in
theorem rt_p0 {x1 x2 x3 x4 x5 x6 x7 x8 x9 x10 x11 x12 x13 x14 x15 x16 x17 x18 x19 x20 x21 x22 x23 x24 x25 x26 x27 x28 x29 x30 x31 x32 x33 x34 x35 x36 x37 x38 x39 x40 x41 x42 x43 x44 x45 x46 x47 x48 x49 x50 x51 x52 x53 x54 x55 x56 x57 x58 x59 x60 x61 x62 x63 x64 x65 x66 x67 x68 x69 x70 x71 x72 x73 x74 x75 x76 x77 x78 x79 x80 x81 x82 x83 x84 x85 x86 x87 x88 x89 x90 : Value} {Q : Exit → Act → World → Prop} {W : World} {v : TV} 
    (hN : Q .normal ⟨#[.agg #[.slice v.p0 v.l0 v.c0, .slice v.p1 v.l1 v.c1, .slice v.p2 v.l2 v.c2], .pointer (some ⟨W.heap.size, 0, none⟩), .bool false, x3, x4, x5, x6, x7, x8, x9, x10, x11, x12, x13, x14, x15, x16, x17, x18, x19, x20, x21, x22, x23, x24, x25, x26, x27, x28, x29, x30, x31, x32, x33, x34, x35, x36, x37, x38, x39, x40, x41, x42, x43, x44, x45, x46, x47, x48, x49, x50, x51, x52, x53, x54, x55, x56, x57, x58, x59, x60, x61, x62, x63, x64, x65, x66, x67, x68, x69, x70, x71, x72, x73, x74, x75, x76, x77, x78, x79, x80, x81, x82, x83, x84, x85, x86, x87, x88, x89, x90], []⟩ (W.alloc (.cells v.cells 25))) :
    Code.wp Try.prog ((Try.f11.body.bind (pcAt 0)).getD .skip) Q ⟨#[.agg #[.slice v.p0 v.l0 v.c0, .slice v.p1 v.l1 v.c1, .slice v.p2 v.l2 v.c2], x1, x2, x3, x4, x5, x6, x7, x8, x9, x10, x11, x12, x13, x14, x15, x16, x17, x18, x19, x20, x21, x22, x23, x24, x25, x26, x27, x28, x29, x30, x31, x32, x33, x34, x35, x36, x37, x38, x39, x40, x41, x42, x43, x44, x45, x46, x47, x48, x49, x50, x51, x52, x53, x54, x55, x56, x57, x58, x59, x60, x61, x62, x63, x64, x65, x66, x67, x68, x69, x70, x71, x72, x73, x74, x75, x76, x77, x78, x79, x80, x81, x82, x83, x84, x85, x86, x87, x88, x89, x90], []⟩ W := by
  conv => arg 2; whnf
  have HN : Hid (Q .normal ⟨#[.agg #[.slice v.p0 v.l0 v.c0, .slice v.p1 v.l1 v.c1, .slice v.p2 v.l2 v.c2], .pointer (some ⟨W.heap.size, 0, none⟩), .bool false, x3, x4, x5, x6, x7, x8, x9, x10, x11, x12, x13, x14, x15, x16, x17, x18, x19, x20, x21, x22, x23, x24, x25, x26, x27, x28, x29, x30, x31, x32, x33, x34, x35, x36, x37, x38, x39, x40, x41, x42, x43, x44, x45, x46, x47, x48, x49, x50, x51, x52, x53, x54, x55, x56, x57, x58, x59, x60, x61, x62, x63, x64, x65, x66, x67, x68, x69, x70, x71, x72, x73, x74, x75, x76, x77, x78, x79, x80, x81, x82, x83, x84, x85, x86, x87, x88, x89, x90], []⟩ (W.alloc (.cells v.cells 25))) := hN
  clear hN
  go_wp2_with fail
  exact HN.out   

set_option maxRecDepth 100000 in
set_option maxHeartbeats 12800000 in
theorem rt_p1 {x0 x2 x3 x4 x5 x6 x7 x8 x9 x10 x11 x12 x13 x14 x15 x16 x17 x18 x19 x20 x21 x22 x23 x24 x25 x26 x27 x28 x29 x30 x31 x32 x33 x34 x35 x36 x37 x38 x39 x40 x41 x42 x43 x44 x45 x46 x47 x48 x49 x50 x51 x52 x53 x54 x55 x56 x57 x58 x59 x60 x61 x62 x63 x64 x65 x66 x67 x68 x69 x70 x71 x72 x73 x74 x75 x76 x77 x78 x79 x80 x81 x82 x83 x84 x85 x86 x87 x88 x89 x90 : Value} {Q : Exit → Act → World → Prop} {W : World} {g : Nat} {v : TV} {t : Tab} (hv : TVar W g v) (ht : TabAt W v t)
    (hN : ∀ (b : Bool) (y6 y7 y8 : Value), (b = true ↔ IdsOk t.ids) → Q .normal ⟨#[x0, .pointer (some ⟨g, 0, none⟩), x2, .bool b, x4, x5, y6, y7, y8, x9, x10, x11, x12, x13, x14, x15, x16, x17, x18, x19, x20, x21, x22, x23, x24, x25, x26, x27, x28, x29, x30, x31, x32, x33, x34, x35, x36, x37, x38, x39, x40, x41, x42, x43, x44, x45, x46, x47, x48, x49, x50, x51, x52, x53, x54, x55, x56, x57, x58, x59, x60, x61, x62, x63, x64, x65, x66, x67, x68, x69, x70, x71, x72, x73, x74, x75, x76, x77, x78, x79, x80, x81, x82, x83, x84, x85, x86, x87, x88, x89, x90], []⟩ W) :
    Code.wp Try.prog ((Try.f11.body.bind (pcAt 1)).getD .skip) Q ⟨#[x0, .pointer (some ⟨g, 0, none⟩), x2, x3, x4, x5, x6, x7, x8, x9, x10, x11, x12, x13, x14, x15, x16, x17, x18, x19, x20, x21, x22, x23, x24, x25, x26, x27, x28, x29, x30, x31, x32, x33, x34, x35, x36, x37, x38, x39, x40, x41, x42, x43, x44, x45, x46, x47, x48, x49, x50, x51, x52, x53, x54, x55, x56, x57, x58, x59, x60, x61, x62, x63, x64, x65, x66, x67, x68, x69, x70, x71, x72, x73, x74, x75, x76, x77, x78, x79, x80, x81, x82, x83, x84, x85, x86, x87, x88, x89, x90], []⟩ W := by
  conv => arg 2; whnf
  have HN : Hid (∀ (b : Bool) (y6 y7 y8 : Value), (b = true ↔ IdsOk t.ids) → Q .normal ⟨#[x0, .pointer (some ⟨g, 0, none⟩), x2, .bool b, x4, x5, y6, y7, y8, x9, x10, x11, x12, x13, x14, x15, x16, x17, x18, x19, x20, x21, x22, x23, x24, x25, x26, x27, x28, x29, x30, x31, x32, x33, x34, x35, x36, x37, x38, x39, x40, x41, x42, x43, x44, x45, x46, x47, x48, x49, x50, x51, x52, x53, x54, x55, x56, x57, x58, x59, x60, x61, x62, x63, x64, x65, x66, x67, x68, x69, x70, x71, x72, x73, x74, x75, x76, x77, x78, x79, x80, x81, x82, x83, x84, x85, x86, x87, x88, x89, x90], []⟩ W) := hN
  clear hN
  have c0 := hv.cells.1
  have HC := (show Hid _ from r15ids_any v.p0 v.l0 v.c0 t.ids W ht.ids)
  clear hv ht
  go_wp2_with fail
  refine Calls.mono HC.out ?_
  rintro e w2 ⟨b, rfl, hb, rfl⟩
  have HB : Hid (b = true ↔ IdsOk t.ids) := hb
  clear hb HC
  go_wp2_with fail
  exact HN.out _ _ _ _ HB.out

set_option maxRecDepth 100000 in
set_option maxHeartbeats 12800000 in
theorem rt_p2 {x0 x2 x4 x5 x6 x7 x8 x9 x10 x11 x12 x13 x14 x15 x16 x17 x18 x19 x20 x21 x22 x23 x24 x25 x26 x27 x28 x29 x30 x31 x32 x33 x34 x35 x36 x37 x38 x39 x40 x41 x42 x43 x44 x45 x46 x47 x48 x49 x50 x51 x52 x53 x54 x55 x56 x57 x58 x59 x60 x61 x62 x63 x64 x65 x66 x67 x68 x69 x70 x71 x72 x73 x74 x75 x76 x77 x78 x79 x80 x81 x82 x83 x84 x85 x86 x87 x88 x89 x90 : Value} {Q : Exit → Act → World → Prop} {W : World} {g : Nat} {v : TV} {b : Bool} (hv : TVar W g v)
    (hN : ∀ (y2 y9 y10 y11 y12 y13 y14 y15 y16 y17 y18 y19 y20 y21 y22 y23 y24 y25 : Value), b = true → v.l2 ≤ 16 → v.l1 = v.l2 → Q .normal ⟨#[x0, .pointer (some ⟨g, 0, none⟩), y2, .bool b, x4, x5, x6, x7, x8, y9, y10, y11, y12, y13, y14, y15, y16, y17, y18, y19, y20, y21, y22, y23, y24, y25, x26, x27, x28, x29, x30, x31, x32, x33, x34, x35, x36, x37, x38, x39, x40, x41, x42, x43, x44, x45, x46, x47, x48, x49, x50, x51, x52, x53, x54, x55, x56, x57, x58, x59, x60, x61, x62, x63, x64, x65, x66, x67, x68, x69, x70, x71, x72, x73, x74, x75, x76, x77, x78, x79, x80, x81, x82, x83, x84, x85, x86, x87, x88, x89, x90], []⟩ W)
    (hR : ∀ (y9 y10 y11 y12 y13 y14 y15 y16 y17 y18 y19 y20 y21 y22 y23 y24 y25 : Value), ¬ (b = true ∧ v.l2 ≤ 16 ∧ v.l1 = v.l2) → Q .ret ⟨#[x0, .pointer (some ⟨g, 0, none⟩), .bool false, .bool b, x4, x5, x6, x7, x8, y9, y10, y11, y12, y13, y14, y15, y16, y17, y18, y19, y20, y21, y22, y23, y24, y25, x26, x27, x28, x29, x30, x31, x32, x33, x34, x35, x36, x37, x38, x39, x40, x41, x42, x43, x44, x45, x46, x47, x48, x49, x50, x51, x52, x53, x54, x55, x56, x57, x58, x59, x60, x61, x62, x63, x64, x65, x66, x67, x68, x69, x70, x71, x72, x73, x74, x75, x76, x77, x78, x79, x80, x81, x82, x83, x84, x85, x86, x87, x88, x89, x90], []⟩ W) :
    Code.wp Try.prog ((Try.f11.body.bind (pcAt 2)).getD .skip) Q ⟨#[x0, .pointer (some ⟨g, 0, none⟩), x2, .bool b, x4, x5, x6, x7, x8, x9, x10, x11, x12, x13, x14, x15, x16, x17, x18, x19, x20, x21, x22, x23, x24, x25, x26, x27, x28, x29, x30, x31, x32, x33, x34, x35, x36, x37, x38, x39, x40, x41, x42, x43, x44, x45, x46, x47, x48, x49, x50, x51, x52, x53, x54, x55, x56, x57, x58, x59, x60, x61, x62, x63, x64, x65, x66, x67, x68, x69, x70, x71, x72, x73, x74, x75, x76, x77, x78, x79, x80, x81, x82, x83, x84, x85, x86, x87, x88, x89, x90], []⟩ W := by
  conv => arg 2; whnf
  have HN : Hid (∀ (y2 y9 y10 y11 y12 y13 y14 y15 y16 y17 y18 y19 y20 y21 y22 y23 y24 y25 : Value), b = true → v.l2 ≤ 16 → v.l1 = v.l2 → Q .normal ⟨#[x0, .pointer (some ⟨g, 0, none⟩), y2, .bool b, x4, x5, x6, x7, x8, y9, y10, y11, y12, y13, y14, y15, y16, y17, y18, y19, y20, y21, y22, y23, y24, y25, x26, x27, x28, x29, x30, x31, x32, x33, x34, x35, x36, x37, x38, x39, x40, x41, x42, x43, x44, x45, x46, x47, x48, x49, x50, x51, x52, x53, x54, x55, x56, x57, x58, x59, x60, x61, x62, x63, x64, x65, x66, x67, x68, x69, x70, x71, x72, x73, x74, x75, x76, x77, x78, x79, x80, x81, x82, x83, x84, x85, x86, x87, x88, x89, x90], []⟩ W) := hN
  have HR : Hid (∀ (y9 y10 y11 y12 y13 y14 y15 y16 y17 y18 y19 y20 y21 y22 y23 y24 y25 : Value), ¬ (b = true ∧ v.l2 ≤ 16 ∧ v.l1 = v.l2) → Q .ret ⟨#[x0, .pointer (some ⟨g, 0, none⟩), .bool false, .bool b, x4, x5, x6, x7, x8, y9, y10, y11, y12, y13, y14, y15, y16, y17, y18, y19, y20, y21, y22, y23, y24, y25, x26, x27, x28, x29, x30, x31, x32, x33, x34, x35, x36, x37, x38, x39, x40, x41, x42, x43, x44, x45, x46, x47, x48, x49, x50, x51, x52, x53, x54, x55, x56, x57, x58, x59, x60, x61, x62, x63, x64, x65, x66, x67, x68, x69, x70, x71, x72, x73, x74, x75, x76, x77, x78, x79, x80, x81, x82, x83, x84, x85, x86, x87, x88, x89, x90], []⟩ W) := hR
  clear hN hR
  obtain ⟨c0, c1, c2, -⟩ := hv.cells
  clear hv
  cases b with
  | false =>
    clear HN
    go_wp2_with fail
    exact HR.out  _ _ _ _ _ _ _ _ _ _ _ _ _ _ _ _ _ (fun e => by cases e.1)
  | true =>
    by_cases h1 : 16 < v.l2
    · have d1 : decide (16 < v.l2) = true := decide_eq_true h1
      have d1i : decide ((16 : Int) < (v.l2 : Int)) = true := decide_eq_true (by omega)
      have HX : Hid (¬ (true = true ∧ v.l2 ≤ 16 ∧ v.l1 = v.l2)) := fun e => by have := e.2.1; omega
      clear HN h1
      go_wp2_with fail
      exact HR.out  _ _ _ _ _ _ _ _ _ _ _ _ _ _ _ _ _ HX.out
    have d1 : decide (16 < v.l2) = false := decide_eq_false h1
    have d1i : decide ((16 : Int) < (v.l2 : Int)) = false := decide_eq_false (by omega)
    by_cases h2 : v.l1 = v.l2
    · have d2 : ((v.l1 : Int) != (v.l2 : Int)) = false := by simp [h2]
      have d2e : ((v.l1 : Int) == (v.l2 : Int)) = true := by simp [h2]
      have HX : Hid (v.l2 ≤ 16 ∧ v.l1 = v.l2) := ⟨by omega, h2⟩
      clear HR h1 h2
      go_wp2_with fail
      exact HN.out  _ _ _ _ _ _ _ _ _ _ _ _ _ _ _ _ _ _ (by trivial) HX.out.1 HX.out.2
    · have d2 : ((v.l1 : Int) != (v.l2 : Int)) = true := by simp; omega
      have d2e : ((v.l1 : Int) == (v.l2 : Int)) = false := by simp; omega
      have HX : Hid (¬ (true = true ∧ v.l2 ≤ 16 ∧ v.l1 = v.l2)) := fun e => h2 e.2.2
      clear HN h1 h2
      go_wp2_with fail
      exact HR.out  _ _ _ _ _ _ _ _ _ _ _ _ _ _ _ _ _ HX.out

set_option maxRecDepth 100000 in
set_option maxHeartbeats 12800000 in
theorem rt_t5 {x0 x2 x3 x5 x6 x7 x8 x9 x10 x11 x12 x13 x14 x15 x16 x17 x18 x19 x20 x21 x22 x23 x24 x25 x26 x27 x28 x29 x30 x31 x32 x33 x34 x35 x36 x37 x38 x39 x40 x41 x42 x43 x44 x45 x46 x47 x48 x49 x50 x51 x52 x53 x54 x55 x56 x57 x58 x59 x60 x61 x62 x63 x64 x65 x66 x67 x68 x69 x70 x71 x72 x73 x74 x75 x76 x77 x78 x79 x80 x81 x82 x83 x84 x85 x86 x87 x88 x89 x90 : Value} {Q : Exit → Act → World → Prop} {W : World} {g i : Nat} {v : TV} (hv : TVar W g v) (hi : i ≤ v.l2)
    (hN : ∀ (y26 y27 y28 y29 y30 : Value), i < v.l2 → Q .normal ⟨#[x0, .pointer (some ⟨g, 0, none⟩), x2, x3, .int .i64 (i : Int), x5, x6, x7, x8, x9, x10, x11, x12, x13, x14, x15, x16, x17, x18, x19, x20, x21, x22, x23, x24, x25, y26, y27, y28, y29, y30, x31, x32, x33, x34, x35, x36, x37, x38, x39, x40, x41, x42, x43, x44, x45, x46, x47, x48, x49, x50, x51, x52, x53, x54, x55, x56, x57, x58, x59, x60, x61, x62, x63, x64, x65, x66, x67, x68, x69, x70, x71, x72, x73, x74, x75, x76, x77, x78, x79, x80, x81, x82, x83, x84, x85, x86, x87, x88, x89, x90], []⟩ W)
    (hE : ∀ (y26 y27 y28 y29 y30 : Value), i = v.l2 → Q (.exit 0) ⟨#[x0, .pointer (some ⟨g, 0, none⟩), x2, x3, .int .i64 (i : Int), x5, x6, x7, x8, x9, x10, x11, x12, x13, x14, x15, x16, x17, x18, x19, x20, x21, x22, x23, x24, x25, y26, y27, y28, y29, y30, x31, x32, x33, x34, x35, x36, x37, x38, x39, x40, x41, x42, x43, x44, x45, x46, x47, x48, x49, x50, x51, x52, x53, x54, x55, x56, x57, x58, x59, x60, x61, x62, x63, x64, x65, x66, x67, x68, x69, x70, x71, x72, x73, x74, x75, x76, x77, x78, x79, x80, x81, x82, x83, x84, x85, x86, x87, x88, x89, x90], []⟩ W) :
    Code.wp Try.prog (((Try.f11.body.bind (pcLoop 0)).bind (pcAt 5)).getD .skip) Q ⟨#[x0, .pointer (some ⟨g, 0, none⟩), x2, x3, .int .i64 (i : Int), x5, x6, x7, x8, x9, x10, x11, x12, x13, x14, x15, x16, x17, x18, x19, x20, x21, x22, x23, x24, x25, x26, x27, x28, x29, x30, x31, x32, x33, x34, x35, x36, x37, x38, x39, x40, x41, x42, x43, x44, x45, x46, x47, x48, x49, x50, x51, x52, x53, x54, x55, x56, x57, x58, x59, x60, x61, x62, x63, x64, x65, x66, x67, x68, x69, x70, x71, x72, x73, x74, x75, x76, x77, x78, x79, x80, x81, x82, x83, x84, x85, x86, x87, x88, x89, x90], []⟩ W := by
  conv => arg 2; whnf
  have HN : Hid (∀ (y26 y27 y28 y29 y30 : Value), i < v.l2 → Q .normal ⟨#[x0, .pointer (some ⟨g, 0, none⟩), x2, x3, .int .i64 (i : Int), x5, x6, x7, x8, x9, x10, x11, x12, x13, x14, x15, x16, x17, x18, x19, x20, x21, x22, x23, x24, x25, y26, y27, y28, y29, y30, x31, x32, x33, x34, x35, x36, x37, x38, x39, x40, x41, x42, x43, x44, x45, x46, x47, x48, x49, x50, x51, x52, x53, x54, x55, x56, x57, x58, x59, x60, x61, x62, x63, x64, x65, x66, x67, x68, x69, x70, x71, x72, x73, x74, x75, x76, x77, x78, x79, x80, x81, x82, x83, x84, x85, x86, x87, x88, x89, x90], []⟩ W) := hN
  have HE : Hid (∀ (y26 y27 y28 y29 y30 : Value), i = v.l2 → Q (.exit 0) ⟨#[x0, .pointer (some ⟨g, 0, none⟩), x2, x3, .int .i64 (i : Int), x5, x6, x7, x8, x9, x10, x11, x12, x13, x14, x15, x16, x17, x18, x19, x20, x21, x22, x23, x24, x25, y26, y27, y28, y29, y30, x31, x32, x33, x34, x35, x36, x37, x38, x39, x40, x41, x42, x43, x44, x45, x46, x47, x48, x49, x50, x51, x52, x53, x54, x55, x56, x57, x58, x59, x60, x61, x62, x63, x64, x65, x66, x67, x68, x69, x70, x71, x72, x73, x74, x75, x76, x77, x78, x79, x80, x81, x82, x83, x84, x85, x86, x87, x88, x89, x90], []⟩ W) := hE
  clear hN hE
  have c2 := hv.cells.2.2.1
  clear hv
  by_cases hlt : i < v.l2
  · have hlti : (i : Int) < (v.l2 : Int) := by omega
    clear HE
    go_wp2_with fail
    exact HN.out  _ _ _ _ _ hlt
  · have hlti : decide (i < v.l2) = false := decide_eq_false hlt
    have HE2 : Hid (i = v.l2) := by show _ = _; omega
    clear HN hi
    go_wp2_with fail
    exact HE.out  _ _ _ _ _ HE2.out

set_option maxRecDepth 100000 in
set_option maxHeartbeats 12800000 in
theorem rt_p7 {x0 x2 x3 x5 x6 x7 x8 x9 x10 x11 x12 x13 x14 x15 x16 x17 x18 x19 x20 x21 x22 x23 x24 x25 x26 x27 x28 x29 x30 x31 x32 x33 x34 x35 x36 x37 x38 x39 x40 x41 x42 x43 x44 x45 x46 x47 x48 x49 x50 x51 x52 x53 x54 x55 x56 x57 x58 x59 x60 x61 x62 x63 x64 x65 x66 x67 x68 x69 x70 x71 x72 x73 x74 x75 x76 x77 x78 x79 x80 x81 x82 x83 x84 x85 x86 x87 x88 x89 x90 : Value} {Q : Exit → Act → World → Prop} {W : World} {g i b1 o1 l1 k1 b2 o2 l2 k2 l0 k0 lc kc : Nat} {p0 pc : Option Addr} {x : Int} (c0 : W.cell? ⟨g, 0, none⟩ = some (.slice p0 l0 k0)) (c1 : W.cell? ⟨g, 1, none⟩ = some (.slice (some ⟨b1, o1, none⟩) l1 k1)) (c2 : W.cell? ⟨g, 2, none⟩ = some (.slice (some ⟨b2, o2, none⟩) l2 k2)) (m1 : W.cell? ⟨b1, o1 + i, none⟩ = some (.int .i64 x)) (m2 : W.cell? ⟨b2, o2 + i, none⟩ = some (.slice pc lc kc)) (hi1 : i < l1) (hi2 : i < l2)
    (hN : ∀ (wx : World) (y2 y33 y34 y35 y36 y37 y38 y39 y40 y41 y42 y43 y44 y45 y46 y47 y48 y49 y50 y51 y52 y53 y54 y55 y56 y57 y58 : Value), Below W.heap.size W wx → 2 ≤ x → x ≤ 32 → lc = l0 → Q .normal ⟨#[x0, .pointer (some ⟨g, 0, none⟩), y2, x3, .int .i64 (i : Int), x5, x6, x7, x8, x9, x10, x11, x12, x13, x14, x15, x16, x17, x18, x19, x20, x21, x22, x23, x24, x25, x26, x27, x28, x29, x30, x31, x32, y33, y34, y35, y36, y37, y38, y39, y40, y41, y42, y43, y44, y45, y46, y47, y48, y49, y50, y51, y52, y53, y54, y55, y56, y57, y58, x59, x60, x61, x62, x63, x64, x65, x66, x67, x68, x69, x70, x71, x72, x73, x74, x75, x76, x77, x78, x79, x80, x81, x82, x83, x84, x85, x86, x87, x88, x89, x90], []⟩ wx)
    (hR : ∀ (wx : World) (y33 y34 y35 y36 y37 y38 y39 y40 y41 y42 y43 y44 y45 y46 y47 y48 y49 y50 y51 y52 y53 y54 y55 y56 y57 y58 : Value), Below W.heap.size W wx → ¬ (2 ≤ x ∧ x ≤ 32 ∧ lc = l0) → Q .ret ⟨#[x0, .pointer (some ⟨g, 0, none⟩), .bool false, x3, .int .i64 (i : Int), x5, x6, x7, x8, x9, x10, x11, x12, x13, x14, x15, x16, x17, x18, x19, x20, x21, x22, x23, x24, x25, x26, x27, x28, x29, x30, x31, x32, y33, y34, y35, y36, y37, y38, y39, y40, y41, y42, y43, y44, y45, y46, y47, y48, y49, y50, y51, y52, y53, y54, y55, y56, y57, y58, x59, x60, x61, x62, x63, x64, x65, x66, x67, x68, x69, x70, x71, x72, x73, x74, x75, x76, x77, x78, x79, x80, x81, x82, x83, x84, x85, x86, x87, x88, x89, x90], []⟩ wx) :
    Code.wp Try.prog (((Try.f11.body.bind (pcBlk 1)).bind (pcAt 7)).getD .skip) Q ⟨#[x0, .pointer (some ⟨g, 0, none⟩), x2, x3, .int .i64 (i : Int), x5, x6, x7, x8, x9, x10, x11, x12, x13, x14, x15, x16, x17, x18, x19, x20, x21, x22, x23, x24, x25, x26, x27, x28, x29, x30, x31, x32, x33, x34, x35, x36, x37, x38, x39, x40, x41, x42, x43, x44, x45, x46, x47, x48, x49, x50, x51, x52, x53, x54, x55, x56, x57, x58, x59, x60, x61, x62, x63, x64, x65, x66, x67, x68, x69, x70, x71, x72, x73, x74, x75, x76, x77, x78, x79, x80, x81, x82, x83, x84, x85, x86, x87, x88, x89, x90], []⟩ W := by
  conv => arg 2; whnf
  have HN : Hid (∀ (wx : World) (y2 y33 y34 y35 y36 y37 y38 y39 y40 y41 y42 y43 y44 y45 y46 y47 y48 y49 y50 y51 y52 y53 y54 y55 y56 y57 y58 : Value), Below W.heap.size W wx → 2 ≤ x → x ≤ 32 → lc = l0 → Q .normal ⟨#[x0, .pointer (some ⟨g, 0, none⟩), y2, x3, .int .i64 (i : Int), x5, x6, x7, x8, x9, x10, x11, x12, x13, x14, x15, x16, x17, x18, x19, x20, x21, x22, x23, x24, x25, x26, x27, x28, x29, x30, x31, x32, y33, y34, y35, y36, y37, y38, y39, y40, y41, y42, y43, y44, y45, y46, y47, y48, y49, y50, y51, y52, y53, y54, y55, y56, y57, y58, x59, x60, x61, x62, x63, x64, x65, x66, x67, x68, x69, x70, x71, x72, x73, x74, x75, x76, x77, x78, x79, x80, x81, x82, x83, x84, x85, x86, x87, x88, x89, x90], []⟩ wx) := hN
  have HR : Hid (∀ (wx : World) (y33 y34 y35 y36 y37 y38 y39 y40 y41 y42 y43 y44 y45 y46 y47 y48 y49 y50 y51 y52 y53 y54 y55 y56 y57 y58 : Value), Below W.heap.size W wx → ¬ (2 ≤ x ∧ x ≤ 32 ∧ lc = l0) → Q .ret ⟨#[x0, .pointer (some ⟨g, 0, none⟩), .bool false, x3, .int .i64 (i : Int), x5, x6, x7, x8, x9, x10, x11, x12, x13, x14, x15, x16, x17, x18, x19, x20, x21, x22, x23, x24, x25, x26, x27, x28, x29, x30, x31, x32, y33, y34, y35, y36, y37, y38, y39, y40, y41, y42, y43, y44, y45, y46, y47, y48, y49, y50, y51, y52, y53, y54, y55, y56, y57, y58, x59, x60, x61, x62, x63, x64, x65, x66, x67, x68, x69, x70, x71, x72, x73, x74, x75, x76, x77, x78, x79, x80, x81, x82, x83, x84, x85, x86, x87, x88, x89, x90], []⟩ wx) := hR
  clear hN hR
  have e1 : (i : Int) < (l1 : Int) := by omega
  have e2 : (i : Int) < (l2 : Int) := by omega
  have e0 : (0 : Int) ≤ (i : Int) := by omega
  have HB : Hid (∀ n, Below W.heap.size W (W.drewN n)) := fun n => below_drewN (Below.refl _ W) n
  refine pcSeq (fun Q1 n1 r1 _ => ?_)
  refine wp_pcOnly ?_
  by_cases h1 : x < 2
  · have d1 : decide (x < 2) = true := decide_eq_true h1
    have HX : Hid (¬ (2 ≤ x ∧ x ≤ 32 ∧ lc = l0)) := fun e => by have := e.1; omega
    clear HN h1
    go_wp2_with fail
    go_quiet (fail)
    refine n1 _ _ ?_
    go_wp2_with fail
    exact HR.out _ _ _ _ _ _ _ _ _ _ _ _ _ _ _ _ _ _ _ _ _ _ _ _ _ _ _ (HB.out _) HX.out
  have d1 : decide (x < 2) = false := decide_eq_false h1
  by_cases h2 : 32 < x
  · have d2 : decide (32 < x) = true := decide_eq_true h2
    have HX : Hid (¬ (2 ≤ x ∧ x ≤ 32 ∧ lc = l0)) := fun e => by have := e.2.1; omega
    clear HN h1 h2
    go_wp2_with fail
    go_quiet (fail)
    refine n1 _ _ ?_
    go_wp2_with fail
    exact HR.out _ _ _ _ _ _ _ _ _ _ _ _ _ _ _ _ _ _ _ _ _ _ _ _ _ _ _ (HB.out _) HX.out
  have d2 : decide (32 < x) = false := decide_eq_false h2
  by_cases h3 : lc = l0
  · have d3 : ((lc : Int) != (l0 : Int)) = false := by simp [h3]
    have d3e : ((lc : Int) == (l0 : Int)) = true := by simp [h3]
    have HX : Hid (2 ≤ x ∧ x ≤ 32 ∧ lc = l0) := ⟨by omega, by omega, h3⟩
    clear HR h1 h2 h3
    go_wp2_with fail
    go_quiet (fail)
    refine n1 _ _ ?_
    go_wp2_with fail
    exact HN.out _ _ _ _ _ _ _ _ _ _ _ _ _ _ _ _ _ _ _ _ _ _ _ _ _ _ _ _ (HB.out _) HX.out.1 HX.out.2.1 HX.out.2.2
  · have d3 : ((lc : Int) != (l0 : Int)) = true := by simp; omega
    have d3e : ((lc : Int) == (l0 : Int)) = false := by simp; omega
    have HX : Hid (¬ (2 ≤ x ∧ x ≤ 32 ∧ lc = l0)) := fun e => h3 e.2.2
    clear HN h1 h2 h3
    go_wp2_with fail
    go_quiet (fail)
    refine n1 _ _ ?_
    go_wp2_with fail
    exact HR.out _ _ _ _ _ _ _ _ _ _ _ _ _ _ _ _ _ _ _ _ _ _ _ _ _ _ _ (HB.out _) HX.out

set_option maxRecDepth 100000 in
set_option maxHeartbeats 12800000 in
theorem rt_t10 {x0 x2 x3 x4 x6 x7 x8 x9 x10 x11 x12 x13 x14 x15 x16 x17 x18 x19 x20 x21 x22 x23 x24 x25 x26 x27 x28 x29 x30 x31 x32 x33 x34 x35 x36 x37 x38 x39 x40 x41 x42 x43 x44 x45 x46 x47 x48 x49 x50 x51 x52 x53 x54 x55 x56 x57 x58 x59 x60 x61 x62 x63 x64 x65 x66 x67 x68 x69 x70 x71 x72 x73 x74 x75 x76 x77 x78 x79 x80 x81 x82 x83 x84 x85 x86 x87 x88 x89 x90 : Value} {Q : Exit → Act → World → Prop} {W : World} {g k : Nat} {v : TV} (hv : TVar W g v) (hk : k ≤ v.l0)
    (hN : ∀ (y59 y60 y61 y62 y63 : Value), k < v.l0 → Q .normal ⟨#[x0, .pointer (some ⟨g, 0, none⟩), x2, x3, x4, .int .i64 (k : Int), x6, x7, x8, x9, x10, x11, x12, x13, x14, x15, x16, x17, x18, x19, x20, x21, x22, x23, x24, x25, x26, x27, x28, x29, x30, x31, x32, x33, x34, x35, x36, x37, x38, x39, x40, x41, x42, x43, x44, x45, x46, x47, x48, x49, x50, x51, x52, x53, x54, x55, x56, x57, x58, y59, y60, y61, y62, y63, x64, x65, x66, x67, x68, x69, x70, x71, x72, x73, x74, x75, x76, x77, x78, x79, x80, x81, x82, x83, x84, x85, x86, x87, x88, x89, x90], []⟩ W)
    (hE : ∀ (y59 y60 y61 y62 y63 : Value), k = v.l0 → Q (.exit 2) ⟨#[x0, .pointer (some ⟨g, 0, none⟩), x2, x3, x4, .int .i64 (k : Int), x6, x7, x8, x9, x10, x11, x12, x13, x14, x15, x16, x17, x18, x19, x20, x21, x22, x23, x24, x25, x26, x27, x28, x29, x30, x31, x32, x33, x34, x35, x36, x37, x38, x39, x40, x41, x42, x43, x44, x45, x46, x47, x48, x49, x50, x51, x52, x53, x54, x55, x56, x57, x58, y59, y60, y61, y62, y63, x64, x65, x66, x67, x68, x69, x70, x71, x72, x73, x74, x75, x76, x77, x78, x79, x80, x81, x82, x83, x84, x85, x86, x87, x88, x89, x90], []⟩ W) :
    Code.wp Try.prog (((Try.f11.body.bind (pcLoop 2)).bind (pcAt 10)).getD .skip) Q ⟨#[x0, .pointer (some ⟨g, 0, none⟩), x2, x3, x4, .int .i64 (k : Int), x6, x7, x8, x9, x10, x11, x12, x13, x14, x15, x16, x17, x18, x19, x20, x21, x22, x23, x24, x25, x26, x27, x28, x29, x30, x31, x32, x33, x34, x35, x36, x37, x38, x39, x40, x41, x42, x43, x44, x45, x46, x47, x48, x49, x50, x51, x52, x53, x54, x55, x56, x57, x58, x59, x60, x61, x62, x63, x64, x65, x66, x67, x68, x69, x70, x71, x72, x73, x74, x75, x76, x77, x78, x79, x80, x81, x82, x83, x84, x85, x86, x87, x88, x89, x90], []⟩ W := by
  conv => arg 2; whnf
  have HN : Hid (∀ (y59 y60 y61 y62 y63 : Value), k < v.l0 → Q .normal ⟨#[x0, .pointer (some ⟨g, 0, none⟩), x2, x3, x4, .int .i64 (k : Int), x6, x7, x8, x9, x10, x11, x12, x13, x14, x15, x16, x17, x18, x19, x20, x21, x22, x23, x24, x25, x26, x27, x28, x29, x30, x31, x32, x33, x34, x35, x36, x37, x38, x39, x40, x41, x42, x43, x44, x45, x46, x47, x48, x49, x50, x51, x52, x53, x54, x55, x56, x57, x58, y59, y60, y61, y62, y63, x64, x65, x66, x67, x68, x69, x70, x71, x72, x73, x74, x75, x76, x77, x78, x79, x80, x81, x82, x83, x84, x85, x86, x87, x88, x89, x90], []⟩ W) := hN
  have HE : Hid (∀ (y59 y60 y61 y62 y63 : Value), k = v.l0 → Q (.exit 2) ⟨#[x0, .pointer (some ⟨g, 0, none⟩), x2, x3, x4, .int .i64 (k : Int), x6, x7, x8, x9, x10, x11, x12, x13, x14, x15, x16, x17, x18, x19, x20, x21, x22, x23, x24, x25, x26, x27, x28, x29, x30, x31, x32, x33, x34, x35, x36, x37, x38, x39, x40, x41, x42, x43, x44, x45, x46, x47, x48, x49, x50, x51, x52, x53, x54, x55, x56, x57, x58, y59, y60, y61, y62, y63, x64, x65, x66, x67, x68, x69, x70, x71, x72, x73, x74, x75, x76, x77, x78, x79, x80, x81, x82, x83, x84, x85, x86, x87, x88, x89, x90], []⟩ W) := hE
  clear hN hE
  have c0 := hv.cells.1
  clear hv
  by_cases hlt : k < v.l0
  · have hlti : (k : Int) < (v.l0 : Int) := by omega
    clear HE
    go_wp2_with fail
    exact HN.out  _ _ _ _ _ hlt
  · have hlti : decide (k < v.l0) = false := decide_eq_false hlt
    have HE2 : Hid (k = v.l0) := by show _ = _; omega
    clear HN hk
    go_wp2_with fail
    exact HE.out  _ _ _ _ _ HE2.out

set_option maxRecDepth 100000 in
set_option maxHeartbeats 12800000 in
theorem rt_p12 {x0 x2 x3 x6 x7 x8 x9 x10 x11 x12 x13 x14 x15 x16 x17 x18 x19 x20 x21 x22 x23 x24 x25 x26 x27 x28 x29 x30 x31 x32 x33 x34 x35 x36 x37 x38 x39 x40 x41 x42 x43 x44 x45 x46 x47 x48 x49 x50 x51 x52 x53 x54 x55 x56 x57 x58 x59 x60 x61 x62 x63 x64 x65 x66 x67 x68 x69 x70 x71 x72 x73 x74 x75 x76 x77 x78 x79 x80 x81 x82 x83 x84 x85 x86 x87 x88 x89 x90 : Value} {Q : Exit → Act → World → Prop} {W : World} {g i b1 o1 l1 k1 b2 o2 l2 k2 lc kc k bc oc : Nat} {x y : Int} (c1 : W.cell? ⟨g, 1, none⟩ = some (.slice (some ⟨b1, o1, none⟩) l1 k1)) (c2 : W.cell? ⟨g, 2, none⟩ = some (.slice (some ⟨b2, o2, none⟩) l2 k2)) (m1 : W.cell? ⟨b1, o1 + i, none⟩ = some (.int .i64 x)) (m2 : W.cell? ⟨b2, o2 + i, none⟩ = some (.slice (some ⟨bc, oc, none⟩) lc kc)) (hi1 : i < l1) (hi2 : i < l2) (m3 : W.cell? ⟨bc, oc + k, none⟩ = some (.int .i64 y)) (hk : k < lc)
    (hN : ∀ (wx : World) (y2 y66 y67 y68 y69 y70 y71 y72 y73 y74 y75 y76 y77 y78 y79 y80 y81 y82 y83 y84 y85 y86 y87 y88 y89 y90 : Value), Below W.heap.size W wx → 0 ≤ y → y < x → Q .normal ⟨#[x0, .pointer (some ⟨g, 0, none⟩), y2, x3, .int .i64 (i : Int), .int .i64 (k : Int), x6, x7, x8, x9, x10, x11, x12, x13, x14, x15, x16, x17, x18, x19, x20, x21, x22, x23, x24, x25, x26, x27, x28, x29, x30, x31, x32, x33, x34, x35, x36, x37, x38, x39, x40, x41, x42, x43, x44, x45, x46, x47, x48, x49, x50, x51, x52, x53, x54, x55, x56, x57, x58, x59, x60, x61, x62, x63, x64, x65, y66, y67, y68, y69, y70, y71, y72, y73, y74, y75, y76, y77, y78, y79, y80, y81, y82, y83, y84, y85, y86, y87, y88, y89, y90], []⟩ wx)
    (hR : ∀ (wx : World) (y66 y67 y68 y69 y70 y71 y72 y73 y74 y75 y76 y77 y78 y79 y80 y81 y82 y83 y84 y85 y86 y87 y88 y89 y90 : Value), Below W.heap.size W wx → ¬ (0 ≤ y ∧ y < x) → Q .ret ⟨#[x0, .pointer (some ⟨g, 0, none⟩), .bool false, x3, .int .i64 (i : Int), .int .i64 (k : Int), x6, x7, x8, x9, x10, x11, x12, x13, x14, x15, x16, x17, x18, x19, x20, x21, x22, x23, x24, x25, x26, x27, x28, x29, x30, x31, x32, x33, x34, x35, x36, x37, x38, x39, x40, x41, x42, x43, x44, x45, x46, x47, x48, x49, x50, x51, x52, x53, x54, x55, x56, x57, x58, x59, x60, x61, x62, x63, x64, x65, y66, y67, y68, y69, y70, y71, y72, y73, y74, y75, y76, y77, y78, y79, y80, y81, y82, y83, y84, y85, y86, y87, y88, y89, y90], []⟩ wx) :
    Code.wp Try.prog (((Try.f11.body.bind (pcBlk 3)).bind (pcFrom 12)).getD .skip) Q ⟨#[x0, .pointer (some ⟨g, 0, none⟩), x2, x3, .int .i64 (i : Int), .int .i64 (k : Int), x6, x7, x8, x9, x10, x11, x12, x13, x14, x15, x16, x17, x18, x19, x20, x21, x22, x23, x24, x25, x26, x27, x28, x29, x30, x31, x32, x33, x34, x35, x36, x37, x38, x39, x40, x41, x42, x43, x44, x45, x46, x47, x48, x49, x50, x51, x52, x53, x54, x55, x56, x57, x58, x59, x60, x61, x62, x63, x64, x65, x66, x67, x68, x69, x70, x71, x72, x73, x74, x75, x76, x77, x78, x79, x80, x81, x82, x83, x84, x85, x86, x87, x88, x89, x90], []⟩ W := by
  conv => arg 2; whnf
  have HN : Hid (∀ (wx : World) (y2 y66 y67 y68 y69 y70 y71 y72 y73 y74 y75 y76 y77 y78 y79 y80 y81 y82 y83 y84 y85 y86 y87 y88 y89 y90 : Value), Below W.heap.size W wx → 0 ≤ y → y < x → Q .normal ⟨#[x0, .pointer (some ⟨g, 0, none⟩), y2, x3, .int .i64 (i : Int), .int .i64 (k : Int), x6, x7, x8, x9, x10, x11, x12, x13, x14, x15, x16, x17, x18, x19, x20, x21, x22, x23, x24, x25, x26, x27, x28, x29, x30, x31, x32, x33, x34, x35, x36, x37, x38, x39, x40, x41, x42, x43, x44, x45, x46, x47, x48, x49, x50, x51, x52, x53, x54, x55, x56, x57, x58, x59, x60, x61, x62, x63, x64, x65, y66, y67, y68, y69, y70, y71, y72, y73, y74, y75, y76, y77, y78, y79, y80, y81, y82, y83, y84, y85, y86, y87, y88, y89, y90], []⟩ wx) := hN
  have HR : Hid (∀ (wx : World) (y66 y67 y68 y69 y70 y71 y72 y73 y74 y75 y76 y77 y78 y79 y80 y81 y82 y83 y84 y85 y86 y87 y88 y89 y90 : Value), Below W.heap.size W wx → ¬ (0 ≤ y ∧ y < x) → Q .ret ⟨#[x0, .pointer (some ⟨g, 0, none⟩), .bool false, x3, .int .i64 (i : Int), .int .i64 (k : Int), x6, x7, x8, x9, x10, x11, x12, x13, x14, x15, x16, x17, x18, x19, x20, x21, x22, x23, x24, x25, x26, x27, x28, x29, x30, x31, x32, x33, x34, x35, x36, x37, x38, x39, x40, x41, x42, x43, x44, x45, x46, x47, x48, x49, x50, x51, x52, x53, x54, x55, x56, x57, x58, x59, x60, x61, x62, x63, x64, x65, y66, y67, y68, y69, y70, y71, y72, y73, y74, y75, y76, y77, y78, y79, y80, y81, y82, y83, y84, y85, y86, y87, y88, y89, y90], []⟩ wx) := hR
  clear hN hR
  have e1 : (i : Int) < (l1 : Int) := by omega
  have e2 : (i : Int) < (l2 : Int) := by omega
  have e0 : (0 : Int) ≤ (i : Int) := by omega
  have e3 : (k : Int) < (lc : Int) := by omega
  have e30 : (0 : Int) ≤ (k : Int) := by omega
  have HB : Hid (∀ n, Below W.heap.size W (W.drewN n)) := fun n => below_drewN (Below.refl _ W) n
  refine pcSeq (fun Q1 n1 r1 _ => ?_)
  refine wp_pcOnly ?_
  by_cases h1 : y < 0
  · have d1 : decide (y < 0) = true := decide_eq_true h1
    have HX : Hid (¬ (0 ≤ y ∧ y < x)) := fun e => by have := e.1; omega
    clear HN h1
    go_wp2_with fail
    go_quiet (fail)
    refine n1 _ _ ?_
    go_wp2_with fail
    exact HR.out _ _ _ _ _ _ _ _ _ _ _ _ _ _ _ _ _ _ _ _ _ _ _ _ _ _ (HB.out _) HX.out
  have d1 : decide (y < 0) = false := decide_eq_false h1
  by_cases h2 : x ≤ y
  · have d2 : decide (x ≤ y) = true := decide_eq_true h2
    have HX : Hid (¬ (0 ≤ y ∧ y < x)) := fun e => by have := e.2; omega
    clear HN h1 h2
    go_wp2_with fail
    go_quiet (fail)
    refine n1 _ _ ?_
    go_wp2_with fail
    exact HR.out _ _ _ _ _ _ _ _ _ _ _ _ _ _ _ _ _ _ _ _ _ _ _ _ _ _ (HB.out _) HX.out
  · have d2 : decide (x ≤ y) = false := decide_eq_false h2
    have HX : Hid (0 ≤ y ∧ y < x) := ⟨by omega, by omega⟩
    clear HR h1 h2
    go_wp2_with fail
    go_quiet (fail)
    refine n1 _ _ ?_
    go_wp2_with fail
    exact HN.out _ _ _ _ _ _ _ _ _ _ _ _ _ _ _ _ _ _ _ _ _ _ _ _ _ _ _ (HB.out _) HX.out.1 HX.out.2

set_option maxRecDepth 100000 in
set_option maxHeartbeats 12800000 in
theorem rt_p11 {x0 x1 x2 x3 x4 x6 x7 x8 x9 x10 x11 x12 x13 x14 x15 x16 x17 x18 x19 x20 x21 x22 x23 x24 x25 x26 x27 x28 x29 x30 x31 x32 x33 x34 x35 x36 x37 x38 x39 x40 x41 x42 x43 x44 x45 x46 x47 x48 x49 x50 x51 x52 x53 x54 x55 x56 x57 x58 x59 x60 x61 x62 x63 x64 x65 x66 x67 x68 x69 x70 x71 x72 x73 x74 x75 x76 x77 x78 x79 x80 x81 x82 x83 x84 x85 x86 x87 x88 x89 x90 : Value} {Q : Exit → Act → World → Prop} {W : World} {k : Nat} (h : k < 9223372036854775807)
    (hN : ∀ (y64 y65 : Value), Q .normal ⟨#[x0, x1, x2, x3, x4, .int .i64 ((k + 1 : Nat) : Int), x6, x7, x8, x9, x10, x11, x12, x13, x14, x15, x16, x17, x18, x19, x20, x21, x22, x23, x24, x25, x26, x27, x28, x29, x30, x31, x32, x33, x34, x35, x36, x37, x38, x39, x40, x41, x42, x43, x44, x45, x46, x47, x48, x49, x50, x51, x52, x53, x54, x55, x56, x57, x58, x59, x60, x61, x62, x63, y64, y65, x66, x67, x68, x69, x70, x71, x72, x73, x74, x75, x76, x77, x78, x79, x80, x81, x82, x83, x84, x85, x86, x87, x88, x89, x90], []⟩ W) :
    Code.wp Try.prog (((Try.f11.body.bind (pcLoop 2)).bind (pcAt 11)).getD .skip) Q ⟨#[x0, x1, x2, x3, x4, .int .i64 (k : Int), x6, x7, x8, x9, x10, x11, x12, x13, x14, x15, x16, x17, x18, x19, x20, x21, x22, x23, x24, x25, x26, x27, x28, x29, x30, x31, x32, x33, x34, x35, x36, x37, x38, x39, x40, x41, x42, x43, x44, x45, x46, x47, x48, x49, x50, x51, x52, x53, x54, x55, x56, x57, x58, x59, x60, x61, x62, x63, x64, x65, x66, x67, x68, x69, x70, x71, x72, x73, x74, x75, x76, x77, x78, x79, x80, x81, x82, x83, x84, x85, x86, x87, x88, x89, x90], []⟩ W := by
  conv => arg 2; whnf
  have HN : Hid (∀ (y64 y65 : Value), Q .normal ⟨#[x0, x1, x2, x3, x4, .int .i64 ((k + 1 : Nat) : Int), x6, x7, x8, x9, x10, x11, x12, x13, x14, x15, x16, x17, x18, x19, x20, x21, x22, x23, x24, x25, x26, x27, x28, x29, x30, x31, x32, x33, x34, x35, x36, x37, x38, x39, x40, x41, x42, x43, x44, x45, x46, x47, x48, x49, x50, x51, x52, x53, x54, x55, x56, x57, x58, x59, x60, x61, x62, x63, y64, y65, x66, x67, x68, x69, x70, x71, x72, x73, x74, x75, x76, x77, x78, x79, x80, x81, x82, x83, x84, x85, x86, x87, x88, x89, x90], []⟩ W) := hN
  clear hN
  have e : ((k + 1 : Nat) : Int) = (k : Int) + 1 := by omega
  rw [e] at HN
  go_wp2_with fail
  exact HN.out  _ _ 

set_option maxRecDepth 100000 in
set_option maxHeartbeats 12800000 in
theorem rt_p6 {x0 x1 x2 x3 x5 x6 x7 x8 x9 x10 x11 x12 x13 x14 x15 x16 x17 x18 x19 x20 x21 x22 x23 x24 x25 x26 x27 x28 x29 x30 x31 x32 x33 x34 x35 x36 x37 x38 x39 x40 x41 x42 x43 x44 x45 x46 x47 x48 x49 x50 x51 x52 x53 x54 x55 x56 x57 x58 x59 x60 x61 x62 x63 x64 x65 x66 x67 x68 x69 x70 x71 x72 x73 x74 x75 x76 x77 x78 x79 x80 x81 x82 x83 x84 x85 x86 x87 x88 x89 x90 : Value} {Q : Exit → Act → World → Prop} {W : World} {i : Nat} (h : i < 9223372036854775807)
    (hN : ∀ (y31 y32 : Value), Q .normal ⟨#[x0, x1, x2, x3, .int .i64 ((i + 1 : Nat) : Int), x5, x6, x7, x8, x9, x10, x11, x12, x13, x14, x15, x16, x17, x18, x19, x20, x21, x22, x23, x24, x25, x26, x27, x28, x29, x30, y31, y32, x33, x34, x35, x36, x37, x38, x39, x40, x41, x42, x43, x44, x45, x46, x47, x48, x49, x50, x51, x52, x53, x54, x55, x56, x57, x58, x59, x60, x61, x62, x63, x64, x65, x66, x67, x68, x69, x70, x71, x72, x73, x74, x75, x76, x77, x78, x79, x80, x81, x82, x83, x84, x85, x86, x87, x88, x89, x90], []⟩ W) :
    Code.wp Try.prog (((Try.f11.body.bind (pcLoop 0)).bind (pcAt 6)).getD .skip) Q ⟨#[x0, x1, x2, x3, .int .i64 (i : Int), x5, x6, x7, x8, x9, x10, x11, x12, x13, x14, x15, x16, x17, x18, x19, x20, x21, x22, x23, x24, x25, x26, x27, x28, x29, x30, x31, x32, x33, x34, x35, x36, x37, x38, x39, x40, x41, x42, x43, x44, x45, x46, x47, x48, x49, x50, x51, x52, x53, x54, x55, x56, x57, x58, x59, x60, x61, x62, x63, x64, x65, x66, x67, x68, x69, x70, x71, x72, x73, x74, x75, x76, x77, x78, x79, x80, x81, x82, x83, x84, x85, x86, x87, x88, x89, x90], []⟩ W := by
  conv => arg 2; whnf
  have HN : Hid (∀ (y31 y32 : Value), Q .normal ⟨#[x0, x1, x2, x3, .int .i64 ((i + 1 : Nat) : Int), x5, x6, x7, x8, x9, x10, x11, x12, x13, x14, x15, x16, x17, x18, x19, x20, x21, x22, x23, x24, x25, x26, x27, x28, x29, x30, y31, y32, x33, x34, x35, x36, x37, x38, x39, x40, x41, x42, x43, x44, x45, x46, x47, x48, x49, x50, x51, x52, x53, x54, x55, x56, x57, x58, x59, x60, x61, x62, x63, x64, x65, x66, x67, x68, x69, x70, x71, x72, x73, x74, x75, x76, x77, x78, x79, x80, x81, x82, x83, x84, x85, x86, x87, x88, x89, x90], []⟩ W) := hN
  clear hN
  have e : ((i + 1 : Nat) : Int) = (i : Int) + 1 := by omega
  rw [e] at HN
  go_wp2_with fail
  exact HN.out  _ _ 

end Go.Proofs.Ytaiikhbfnfcalaa

namespace Go.Proofs.Ytaiikhbfnfcalaa
open Go.RowKit


theorem IRows.at {w : World} {a : Option Addr} {l c : Nat} {Ls : List (List Int)} (h : IRows w a l c Ls) {i : Nat} (hi : i < l) : ∃ b off p n k, a = some ⟨b, off, none⟩ ∧ w.cell? ⟨b, off + i, none⟩ = some (.slice p n k) ∧ Lsts w p n k (Ls.getD i []) := by
  obtain ⟨b, off, e, hc⟩ := h.cells (by omega)
  obtain ⟨p, n, k, h1, h2⟩ := hc i hi
  exact ⟨b, off, p, n, k, e, h1, h2⟩
theorem Lsts.at {w : World} {a : Option Addr} {l c : Nat} {xs : List Int} (h : Lsts w a l c xs) {i : Nat} (hi : i < l) : ∃ b off, a = some ⟨b, off, none⟩ ∧ w.cell? ⟨b, off + i, none⟩ = some (.int .i64 (xs.getD i 0)) := by
  obtain ⟨b, off, e, hc⟩ := h.cells (by omega)
  exact ⟨b, off, e, hc i hi⟩
/-- Right, under way. -/
structure RtAt (w : World) (g : Nat) (v : TV) (t : Tab) (W : World) : Prop where
  var : TVar W g v
  tab : TabAt W v t
  below : Below w.heap.size w W
theorem RtAt.grow {w : World} {g : Nat} {v : TV} {t : Tab} {W W' : World} (h : RtAt w g v t W) (hb : Below W.heap.size W W') : RtAt w g v t W' := ⟨h.var.below hb, h.tab.below hb, bthen h.below hb⟩
set_option maxRecDepth 100000 in
set_option maxHeartbeats 12800000 in
theorem rt_l2 {x0 x2 x3 x5 x6 x7 x8 x9 x10 x11 x12 x13 x14 x15 x16 x17 x18 x19 x20 x21 x22 x23 x24 x25 x26 x27 x28 x29 x30 x31 x32 x33 x34 x35 x36 x37 x38 x39 x40 x41 x42 x43 x44 x45 x46 x47 x48 x49 x50 x51 x52 x53 x54 x55 x56 x57 x58 x59 x60 x61 x62 x63 x64 x65 x66 x67 x68 x69 x70 x71 x72 x73 x74 x75 x76 x77 x78 x79 x80 x81 x82 x83 x84 x85 x86 x87 x88 x89 x90 : Value} {Q : Exit → Act → World → Prop} {w W : World} {g i : Nat} {v : TV} {t : Tab} (h : RtAt w g v t W) (hi : i < v.l2) (hl : v.l1 = v.l2) (hlen : (t.cols.getD i []).length = v.l0)
    (hN : ∀ (wx : World) (y2 y5 y59 y60 y61 y62 y63 y64 y65 y66 y67 y68 y69 y70 y71 y72 y73 y74 y75 y76 y77 y78 y79 y80 y81 y82 y83 y84 y85 y86 y87 y88 y89 y90 : Value), RtAt w g v t wx → (∀ k, k < v.l0 → 0 ≤ (t.cols.getD i []).getD k 0 ∧ (t.cols.getD i []).getD k 0 < t.bins.getD i 0) → Q .normal ⟨#[x0, .pointer (some ⟨g, 0, none⟩), y2, x3, .int .i64 (i : Int), y5, x6, x7, x8, x9, x10, x11, x12, x13, x14, x15, x16, x17, x18, x19, x20, x21, x22, x23, x24, x25, x26, x27, x28, x29, x30, x31, x32, x33, x34, x35, x36, x37, x38, x39, x40, x41, x42, x43, x44, x45, x46, x47, x48, x49, x50, x51, x52, x53, x54, x55, x56, x57, x58, y59, y60, y61, y62, y63, y64, y65, y66, y67, y68, y69, y70, y71, y72, y73, y74, y75, y76, y77, y78, y79, y80, y81, y82, y83, y84, y85, y86, y87, y88, y89, y90], []⟩ wx)
    (hR : ∀ (wx : World) (y5 y59 y60 y61 y62 y63 y64 y65 y66 y67 y68 y69 y70 y71 y72 y73 y74 y75 y76 y77 y78 y79 y80 y81 y82 y83 y84 y85 y86 y87 y88 y89 y90 : Value), RtAt w g v t wx → ¬ (∀ k, k < v.l0 → 0 ≤ (t.cols.getD i []).getD k 0 ∧ (t.cols.getD i []).getD k 0 < t.bins.getD i 0) → Q .ret ⟨#[x0, .pointer (some ⟨g, 0, none⟩), .bool false, x3, .int .i64 (i : Int), y5, x6, x7, x8, x9, x10, x11, x12, x13, x14, x15, x16, x17, x18, x19, x20, x21, x22, x23, x24, x25, x26, x27, x28, x29, x30, x31, x32, x33, x34, x35, x36, x37, x38, x39, x40, x41, x42, x43, x44, x45, x46, x47, x48, x49, x50, x51, x52, x53, x54, x55, x56, x57, x58, y59, y60, y61, y62, y63, y64, y65, y66, y67, y68, y69, y70, y71, y72, y73, y74, y75, y76, y77, y78, y79, y80, y81, y82, y83, y84, y85, y86, y87, y88, y89, y90], []⟩ wx) :
    Code.wp Try.prog (((Try.f11.body.bind (pcBlk 1)).bind (pcFrom 9)).getD .skip) Q ⟨#[x0, .pointer (some ⟨g, 0, none⟩), x2, x3, .int .i64 (i : Int), x5, x6, x7, x8, x9, x10, x11, x12, x13, x14, x15, x16, x17, x18, x19, x20, x21, x22, x23, x24, x25, x26, x27, x28, x29, x30, x31, x32, x33, x34, x35, x36, x37, x38, x39, x40, x41, x42, x43, x44, x45, x46, x47, x48, x49, x50, x51, x52, x53, x54, x55, x56, x57, x58, x59, x60, x61, x62, x63, x64, x65, x66, x67, x68, x69, x70, x71, x72, x73, x74, x75, x76, x77, x78, x79, x80, x81, x82, x83, x84, x85, x86, x87, x88, x89, x90], []⟩ W := by
  conv => arg 2; whnf
  have HN : Hid (∀ (wx : World) (y2 y5 y59 y60 y61 y62 y63 y64 y65 y66 y67 y68 y69 y70 y71 y72 y73 y74 y75 y76 y77 y78 y79 y80 y81 y82 y83 y84 y85 y86 y87 y88 y89 y90 : Value), RtAt w g v t wx → (∀ k, k < v.l0 → 0 ≤ (t.cols.getD i []).getD k 0 ∧ (t.cols.getD i []).getD k 0 < t.bins.getD i 0) → Q .normal ⟨#[x0, .pointer (some ⟨g, 0, none⟩), y2, x3, .int .i64 (i : Int), y5, x6, x7, x8, x9, x10, x11, x12, x13, x14, x15, x16, x17, x18, x19, x20, x21, x22, x23, x24, x25, x26, x27, x28, x29, x30, x31, x32, x33, x34, x35, x36, x37, x38, x39, x40, x41, x42, x43, x44, x45, x46, x47, x48, x49, x50, x51, x52, x53, x54, x55, x56, x57, x58, y59, y60, y61, y62, y63, y64, y65, y66, y67, y68, y69, y70, y71, y72, y73, y74, y75, y76, y77, y78, y79, y80, y81, y82, y83, y84, y85, y86, y87, y88, y89, y90], []⟩ wx) := hN
  have HR : Hid (∀ (wx : World) (y5 y59 y60 y61 y62 y63 y64 y65 y66 y67 y68 y69 y70 y71 y72 y73 y74 y75 y76 y77 y78 y79 y80 y81 y82 y83 y84 y85 y86 y87 y88 y89 y90 : Value), RtAt w g v t wx → ¬ (∀ k, k < v.l0 → 0 ≤ (t.cols.getD i []).getD k 0 ∧ (t.cols.getD i []).getD k 0 < t.bins.getD i 0) → Q .ret ⟨#[x0, .pointer (some ⟨g, 0, none⟩), .bool false, x3, .int .i64 (i : Int), y5, x6, x7, x8, x9, x10, x11, x12, x13, x14, x15, x16, x17, x18, x19, x20, x21, x22, x23, x24, x25, x26, x27, x28, x29, x30, x31, x32, x33, x34, x35, x36, x37, x38, x39, x40, x41, x42, x43, x44, x45, x46, x47, x48, x49, x50, x51, x52, x53, x54, x55, x56, x57, x58, y59, y60, y61, y62, y63, y64, y65, y66, y67, y68, y69, y70, y71, y72, y73, y74, y75, y76, y77, y78, y79, y80, y81, y82, y83, y84, y85, y86, y87, y88, y89, y90], []⟩ wx) := hR
  clear hN hR
  have hm := h.tab.ids.hmax
  have hc := h.tab.ids.hcap
  unfold maxLen at hm
  refine pcSeq (fun Q1 n1 r1 _ => ?_)
  go_wp2_with fail
  refine n1 _ _ (pcBlock (fun Q2 n2 e2 r2 => ?_))
  go_loopw [5] (fun v5 wr => ∃ k : Nat, v5 = .int .i64 (k : Int) ∧ k ≤ v.l0 ∧ RtAt w g v t wr ∧ ∀ j, j < k → 0 ≤ (t.cols.getD i []).getD j 0 ∧ (t.cols.getD i []).getD j 0 < t.bins.getD i 0) (fun v5 _ => v.l0 - (intOf v5).toNat)
  case atStart => exact ⟨0, rfl, Nat.zero_le _, h, fun j hj => absurd hj (by omega)⟩
  case round =>
    clear h
    obtain ⟨k, rfl, hk, h, hall⟩ := hrel
    refine pcSeq (fun Q3 n3 r3 e3 => rt_t10 h.var hk ?_ ?_)
    · intros
      rename_i hlt
      refine n3 _ _ (pcSeq (fun Q4 n4 r4 e4 => pcBlock (fun Q5 n5 e5 r5 => ?_)))
      obtain ⟨c0, c1, c2, -⟩ := h.var.cells
      obtain ⟨b1, o1, q1, m1⟩ := h.tab.bins.at (i := i) (by omega)
      obtain ⟨b2, o2, pc, lc, kc, q2, m2, hcol⟩ := h.tab.cols.at hi
      obtain rfl : lc = v.l0 := hcol.hlen.symm.trans hlen
      obtain ⟨bc, oc, rfl, m3⟩ := hcol.at (i := k) hlt
      rw [q1] at c1
      rw [q2] at c2
      refine rt_p12 c1 c2 m1 m2 (by omega) hi m3 hlt ?_ ?_
      · intros
        rename_i wx hb y0 y1
        refine n5 _ _ (n4 _ _ (rt_p11 (by omega) ?_))
        intros
        dsimp only [Exit.then]
        go_roundw
        case rel => exact ⟨k + 1, by go_num, hlt, h.grow hb, fun j hj => by
          by_cases e : j = k
          · rw [e]; exact ⟨y0, y1⟩
          · exact hall j (by omega)⟩
        case measure => simp [intOf]; omega
      · intros
        rename_i wx hb hno
        exact r5 _ _ (r4 _ _ (r2 _ _ (HR.out _ _ _ _ _ _ _ _ _ _ _ _ _ _ _ _ _ _ _ _ _ _ _ _ _ _ _ _ _ _ _ _ _ _ (h.grow hb) (fun q => hno (q k hlt)))))
    · intros
      rename_i he
      subst he
      exact e3 _ _ _ (e2 _ _ (HN.out _ _ _ _ _ _ _ _ _ _ _ _ _ _ _ _ _ _ _ _ _ _ _ _ _ _ _ _ _ _ _ _ _ _ _ h hall))

set_option maxRecDepth 100000 in
set_option maxHeartbeats 12800000 in
theorem rt_l0 {x0 x2 x3 x4 x5 x6 x7 x8 x9 x10 x11 x12 x13 x14 x15 x16 x17 x18 x19 x20 x21 x22 x23 x24 x25 x26 x27 x28 x29 x30 x31 x32 x33 x34 x35 x36 x37 x38 x39 x40 x41 x42 x43 x44 x45 x46 x47 x48 x49 x50 x51 x52 x53 x54 x55 x56 x57 x58 x59 x60 x61 x62 x63 x64 x65 x66 x67 x68 x69 x70 x71 x72 x73 x74 x75 x76 x77 x78 x79 x80 x81 x82 x83 x84 x85 x86 x87 x88 x89 x90 : Value} {Q : Exit → Act → World → Prop} {w W : World} {g : Nat} {v : TV} {t : Tab} (h : RtAt w g v t W) (hl : v.l1 = v.l2)
    (hN : ∀ (wx : World) (y2 y4 y5 y26 y27 y28 y29 y30 y31 y32 y33 y34 y35 y36 y37 y38 y39 y40 y41 y42 y43 y44 y45 y46 y47 y48 y49 y50 y51 y52 y53 y54 y55 y56 y57 y58 y59 y60 y61 y62 y63 y64 y65 y66 y67 y68 y69 y70 y71 y72 y73 y74 y75 y76 y77 y78 y79 y80 y81 y82 y83 y84 y85 y86 y87 y88 y89 y90 : Value), RtAt w g v t wx → (∀ i, i < v.l2 → ColOk v.l0 (t.bins.getD i 0) (t.cols.getD i [])) → Q .normal ⟨#[x0, .pointer (some ⟨g, 0, none⟩), y2, x3, y4, y5, x6, x7, x8, x9, x10, x11, x12, x13, x14, x15, x16, x17, x18, x19, x20, x21, x22, x23, x24, x25, y26, y27, y28, y29, y30, y31, y32, y33, y34, y35, y36, y37, y38, y39, y40, y41, y42, y43, y44, y45, y46, y47, y48, y49, y50, y51, y52, y53, y54, y55, y56, y57, y58, y59, y60, y61, y62, y63, y64, y65, y66, y67, y68, y69, y70, y71, y72, y73, y74, y75, y76, y77, y78, y79, y80, y81, y82, y83, y84, y85, y86, y87, y88, y89, y90], []⟩ wx)
    (hR : ∀ (wx : World) (y4 y5 y26 y27 y28 y29 y30 y31 y32 y33 y34 y35 y36 y37 y38 y39 y40 y41 y42 y43 y44 y45 y46 y47 y48 y49 y50 y51 y52 y53 y54 y55 y56 y57 y58 y59 y60 y61 y62 y63 y64 y65 y66 y67 y68 y69 y70 y71 y72 y73 y74 y75 y76 y77 y78 y79 y80 y81 y82 y83 y84 y85 y86 y87 y88 y89 y90 : Value), RtAt w g v t wx → ¬ (∀ i, i < v.l2 → ColOk v.l0 (t.bins.getD i 0) (t.cols.getD i [])) → Q .ret ⟨#[x0, .pointer (some ⟨g, 0, none⟩), .bool false, x3, y4, y5, x6, x7, x8, x9, x10, x11, x12, x13, x14, x15, x16, x17, x18, x19, x20, x21, x22, x23, x24, x25, y26, y27, y28, y29, y30, y31, y32, y33, y34, y35, y36, y37, y38, y39, y40, y41, y42, y43, y44, y45, y46, y47, y48, y49, y50, y51, y52, y53, y54, y55, y56, y57, y58, y59, y60, y61, y62, y63, y64, y65, y66, y67, y68, y69, y70, y71, y72, y73, y74, y75, y76, y77, y78, y79, y80, y81, y82, y83, y84, y85, y86, y87, y88, y89, y90], []⟩ wx) :
    Code.wp Try.prog ((Try.f11.body.bind (pcAt 4)).getD .skip) Q ⟨#[x0, .pointer (some ⟨g, 0, none⟩), x2, x3, x4, x5, x6, x7, x8, x9, x10, x11, x12, x13, x14, x15, x16, x17, x18, x19, x20, x21, x22, x23, x24, x25, x26, x27, x28, x29, x30, x31, x32, x33, x34, x35, x36, x37, x38, x39, x40, x41, x42, x43, x44, x45, x46, x47, x48, x49, x50, x51, x52, x53, x54, x55, x56, x57, x58, x59, x60, x61, x62, x63, x64, x65, x66, x67, x68, x69, x70, x71, x72, x73, x74, x75, x76, x77, x78, x79, x80, x81, x82, x83, x84, x85, x86, x87, x88, x89, x90], []⟩ W := by
  conv => arg 2; whnf
  have HN : Hid (∀ (wx : World) (y2 y4 y5 y26 y27 y28 y29 y30 y31 y32 y33 y34 y35 y36 y37 y38 y39 y40 y41 y42 y43 y44 y45 y46 y47 y48 y49 y50 y51 y52 y53 y54 y55 y56 y57 y58 y59 y60 y61 y62 y63 y64 y65 y66 y67 y68 y69 y70 y71 y72 y73 y74 y75 y76 y77 y78 y79 y80 y81 y82 y83 y84 y85 y86 y87 y88 y89 y90 : Value), RtAt w g v t wx → (∀ i, i < v.l2 → ColOk v.l0 (t.bins.getD i 0) (t.cols.getD i [])) → Q .normal ⟨#[x0, .pointer (some ⟨g, 0, none⟩), y2, x3, y4, y5, x6, x7, x8, x9, x10, x11, x12, x13, x14, x15, x16, x17, x18, x19, x20, x21, x22, x23, x24, x25, y26, y27, y28, y29, y30, y31, y32, y33, y34, y35, y36, y37, y38, y39, y40, y41, y42, y43, y44, y45, y46, y47, y48, y49, y50, y51, y52, y53, y54, y55, y56, y57, y58, y59, y60, y61, y62, y63, y64, y65, y66, y67, y68, y69, y70, y71, y72, y73, y74, y75, y76, y77, y78, y79, y80, y81, y82, y83, y84, y85, y86, y87, y88, y89, y90], []⟩ wx) := hN
  have HR : Hid (∀ (wx : World) (y4 y5 y26 y27 y28 y29 y30 y31 y32 y33 y34 y35 y36 y37 y38 y39 y40 y41 y42 y43 y44 y45 y46 y47 y48 y49 y50 y51 y52 y53 y54 y55 y56 y57 y58 y59 y60 y61 y62 y63 y64 y65 y66 y67 y68 y69 y70 y71 y72 y73 y74 y75 y76 y77 y78 y79 y80 y81 y82 y83 y84 y85 y86 y87 y88 y89 y90 : Value), RtAt w g v t wx → ¬ (∀ i, i < v.l2 → ColOk v.l0 (t.bins.getD i 0) (t.cols.getD i [])) → Q .ret ⟨#[x0, .pointer (some ⟨g, 0, none⟩), .bool false, x3, y4, y5, x6, x7, x8, x9, x10, x11, x12, x13, x14, x15, x16, x17, x18, x19, x20, x21, x22, x23, x24, x25, y26, y27, y28, y29, y30, y31, y32, y33, y34, y35, y36, y37, y38, y39, y40, y41, y42, y43, y44, y45, y46, y47, y48, y49, y50, y51, y52, y53, y54, y55, y56, y57, y58, y59, y60, y61, y62, y63, y64, y65, y66, y67, y68, y69, y70, y71, y72, y73, y74, y75, y76, y77, y78, y79, y80, y81, y82, y83, y84, y85, y86, y87, y88, y89, y90], []⟩ wx) := hR
  clear hN hR
  have hm := h.tab.cols.hmax
  have hc := h.tab.cols.hcap
  unfold maxLen at hm
  refine pcSeq (fun Q1 n1 r1 _ => ?_)
  go_wp2_with fail
  refine n1 _ _ (pcBlock (fun Q2 n2 e2 r2 => ?_))
  go_loopw [4] (fun v4 wr => ∃ i : Nat, v4 = .int .i64 (i : Int) ∧ i ≤ v.l2 ∧ RtAt w g v t wr ∧ ∀ j, j < i → ColOk v.l0 (t.bins.getD j 0) (t.cols.getD j [])) (fun v4 _ => v.l2 - (intOf v4).toNat)
  case atStart => exact ⟨0, rfl, Nat.zero_le _, h, fun j hj => absurd hj (by omega)⟩
  case round =>
    clear h
    obtain ⟨i, rfl, hi, h, hall⟩ := hrel
    refine pcSeq (fun Q3 n3 r3 e3 => rt_t5 h.var hi ?_ ?_)
    · intros
      rename_i hlt
      refine n3 _ _ (pcSeq (fun Q4 n4 r4 e4 => pcBlock (fun Q5 n5 e5 r5 => ?_)))
      obtain ⟨c0, c1, c2, -⟩ := h.var.cells
      obtain ⟨b1, o1, q1, m1⟩ := h.tab.bins.at (i := i) (by omega)
      obtain ⟨b2, o2, pc, lc, kc, q2, m2, hcol⟩ := h.tab.cols.at hlt
      rw [q1] at c1
      rw [q2] at c2
      refine pcSeq (fun Q6 n6 r6 e6 => rt_p7 c0 c1 c2 m1 m2 (by omega) hlt ?_ ?_)
      · intros
        rename_i wx hb y0 y1 y2
        refine n6 _ _ (rt_l2 (h.grow hb) hlt hl (hcol.hlen.trans y2) ?_ ?_)
        · intros
          rename_i wy hy hrg
          refine n5 _ _ (n4 _ _ (rt_p6 (by omega) ?_))
          intros
          dsimp only [Exit.then]
          go_roundw
          case rel => exact ⟨i + 1, by go_num, hlt, hy, fun j hj => by
            by_cases e : j = i
            · rw [e]; exact ⟨y0, y1, hcol.hlen.trans y2, hrg⟩
            · exact hall j (by omega)⟩
          case measure => simp [intOf]; omega
        · intros
          rename_i wy hy hno
          exact r5 _ _ (r4 _ _ (r2 _ _ (HR.out _ _ _ _ _ _ _ _ _ _ _ _ _ _ _ _ _ _ _ _ _ _ _ _ _ _ _ _ _ _ _ _ _ _ _ _ _ _ _ _ _ _ _ _ _ _ _ _ _ _ _ _ _ _ _ _ _ _ _ _ _ _ _ _ _ _ _ _ hy (fun q => hno (q i hlt).rng))))
      · intros
        rename_i wx hb hno
        exact r6 _ _ (r5 _ _ (r4 _ _ (r2 _ _ (HR.out _ _ _ _ _ _ _ _ _ _ _ _ _ _ _ _ _ _ _ _ _ _ _ _ _ _ _ _ _ _ _ _ _ _ _ _ _ _ _ _ _ _ _ _ _ _ _ _ _ _ _ _ _ _ _ _ _ _ _ _ _ _ _ _ _ _ _ _ (h.grow hb) (fun q => hno ⟨(q i hlt).lo, (q i hlt).hi, hcol.hlen.symm.trans (q i hlt).len⟩)))))
    · intros
      rename_i he
      subst he
      exact e3 _ _ _ (e2 _ _ (HN.out _ _ _ _ _ _ _ _ _ _ _ _ _ _ _ _ _ _ _ _ _ _ _ _ _ _ _ _ _ _ _ _ _ _ _ _ _ _ _ _ _ _ _ _ _ _ _ _ _ _ _ _ _ _ _ _ _ _ _ _ _ _ _ _ _ _ _ _ _ h hall))

set_option maxRecDepth 100000 in
set_option maxHeartbeats 12800000 in
theorem rt_p14 {x0 x1 x2 x3 x4 x5 x6 x7 x8 x9 x10 x11 x12 x13 x14 x15 x16 x17 x18 x19 x20 x21 x22 x23 x24 x25 x26 x27 x28 x29 x30 x31 x32 x33 x34 x35 x36 x37 x38 x39 x40 x41 x42 x43 x44 x45 x46 x47 x48 x49 x50 x51 x52 x53 x54 x55 x56 x57 x58 x59 x60 x61 x62 x63 x64 x65 x66 x67 x68 x69 x70 x71 x72 x73 x74 x75 x76 x77 x78 x79 x80 x81 x82 x83 x84 x85 x86 x87 x88 x89 x90 : Value} {Q : Exit → Act → World → Prop} {W : World} 
    (hR : Q .ret ⟨#[x0, x1, .bool true, x3, x4, x5, x6, x7, x8, x9, x10, x11, x12, x13, x14, x15, x16, x17, x18, x19, x20, x21, x22, x23, x24, x25, x26, x27, x28, x29, x30, x31, x32, x33, x34, x35, x36, x37, x38, x39, x40, x41, x42, x43, x44, x45, x46, x47, x48, x49, x50, x51, x52, x53, x54, x55, x56, x57, x58, x59, x60, x61, x62, x63, x64, x65, x66, x67, x68, x69, x70, x71, x72, x73, x74, x75, x76, x77, x78, x79, x80, x81, x82, x83, x84, x85, x86, x87, x88, x89, x90], []⟩ W) :
    Code.wp Try.prog ((Try.f11.body.bind (pcFrom 14)).getD .skip) Q ⟨#[x0, x1, x2, x3, x4, x5, x6, x7, x8, x9, x10, x11, x12, x13, x14, x15, x16, x17, x18, x19, x20, x21, x22, x23, x24, x25, x26, x27, x28, x29, x30, x31, x32, x33, x34, x35, x36, x37, x38, x39, x40, x41, x42, x43, x44, x45, x46, x47, x48, x49, x50, x51, x52, x53, x54, x55, x56, x57, x58, x59, x60, x61, x62, x63, x64, x65, x66, x67, x68, x69, x70, x71, x72, x73, x74, x75, x76, x77, x78, x79, x80, x81, x82, x83, x84, x85, x86, x87, x88, x89, x90], []⟩ W := by
  conv => arg 2; whnf
  have HR : Hid (Q .ret ⟨#[x0, x1, .bool true, x3, x4, x5, x6, x7, x8, x9, x10, x11, x12, x13, x14, x15, x16, x17, x18, x19, x20, x21, x22, x23, x24, x25, x26, x27, x28, x29, x30, x31, x32, x33, x34, x35, x36, x37, x38, x39, x40, x41, x42, x43, x44, x45, x46, x47, x48, x49, x50, x51, x52, x53, x54, x55, x56, x57, x58, x59, x60, x61, x62, x63, x64, x65, x66, x67, x68, x69, x70, x71, x72, x73, x74, x75, x76, x77, x78, x79, x80, x81, x82, x83, x84, x85, x86, x87, x88, x89, x90], []⟩ W) := hR
  clear hR
  go_wp2_with fail
  exact HR.out   

set_option maxRecDepth 100000 in
theorem rt_ret {x0 x1 x3 x4 x5 x6 x7 x8 x9 x10 x11 x12 x13 x14 x15 x16 x17 x18 x19 x20 x21 x22 x23 x24 x25 x26 x27 x28 x29 x30 x31 x32 x33 x34 x35 x36 x37 x38 x39 x40 x41 x42 x43 x44 x45 x46 x47 x48 x49 x50 x51 x52 x53 x54 x55 x56 x57 x58 x59 x60 x61 x62 x63 x64 x65 x66 x67 x68 x69 x70 x71 x72 x73 x74 x75 x76 x77 x78 x79 x80 x81 x82 x83 x84 x85 x86 x87 x88 x89 x90 : Value}  {post : Ending → World → Prop} {W : World} (h : post (.returned (.bool true)) W) : bodyPost Try.prog Try.f11 post .ret ⟨#[x0, x1, .bool true, x3, x4, x5, x6, x7, x8, x9, x10, x11, x12, x13, x14, x15, x16, x17, x18, x19, x20, x21, x22, x23, x24, x25, x26, x27, x28, x29, x30, x31, x32, x33, x34, x35, x36, x37, x38, x39, x40, x41, x42, x43, x44, x45, x46, x47, x48, x49, x50, x51, x52, x53, x54, x55, x56, x57, x58, x59, x60, x61, x62, x63, x64, x65, x66, x67, x68, x69, x70, x71, x72, x73, x74, x75, x76, x77, x78, x79, x80, x81, x82, x83, x84, x85, x86, x87, x88, x89, x90], []⟩ W :=
  bodyPost_ret (v := .bool true) (by simp [results, Try.results11, go_sem]) rfl h

set_option maxRecDepth 100000 in
theorem rt_retF {x0 x1 x3 x4 x5 x6 x7 x8 x9 x10 x11 x12 x13 x14 x15 x16 x17 x18 x19 x20 x21 x22 x23 x24 x25 x26 x27 x28 x29 x30 x31 x32 x33 x34 x35 x36 x37 x38 x39 x40 x41 x42 x43 x44 x45 x46 x47 x48 x49 x50 x51 x52 x53 x54 x55 x56 x57 x58 x59 x60 x61 x62 x63 x64 x65 x66 x67 x68 x69 x70 x71 x72 x73 x74 x75 x76 x77 x78 x79 x80 x81 x82 x83 x84 x85 x86 x87 x88 x89 x90 : Value}  {post : Ending → World → Prop} {W : World} (h : post (.returned (.bool false)) W) : bodyPost Try.prog Try.f11 post .ret ⟨#[x0, x1, .bool false, x3, x4, x5, x6, x7, x8, x9, x10, x11, x12, x13, x14, x15, x16, x17, x18, x19, x20, x21, x22, x23, x24, x25, x26, x27, x28, x29, x30, x31, x32, x33, x34, x35, x36, x37, x38, x39, x40, x41, x42, x43, x44, x45, x46, x47, x48, x49, x50, x51, x52, x53, x54, x55, x56, x57, x58, x59, x60, x61, x62, x63, x64, x65, x66, x67, x68, x69, x70, x71, x72, x73, x74, x75, x76, x77, x78, x79, x80, x81, x82, x83, x84, x85, x86, x87, x88, x89, x90], []⟩ W :=
  bodyPost_ret (v := .bool false) (by simp [results, Try.results11, go_sem]) rfl h

def RgtT15 (t : Tab) (w : World) (e : Ending) (w' : World) : Prop := ∃ b, e = .returned (.bool b) ∧ (b = true ↔ TabOk t) ∧ Below w.heap.size w w'
set_option maxRecDepth 100000 in
set_option maxHeartbeats 3200000 in
theorem r15right_any (v : TV) (t : Tab) (w : World) (h : TabAt w v t) : Calls Try.prog 11 #[.agg #[.slice v.p0 v.l0 v.c0, .slice v.p1 v.l1 v.c1, .slice v.p2 v.l2 v.c2]] w fun e w' => RgtT15 t w e w' := by
  have hNo : ∀ W, Below w.heap.size w W → ¬ TabOk t → RgtT15 t w (.returned (.bool false)) W := fun W hb q => ⟨false, rfl, ⟨fun e => (by cases e), fun e => absurd e q⟩, hb⟩
  go_enter Try.func11, Try.ntmps11
  refine pcSeq (fun Q0 n0 r0 _ => rt_p0 ?_)
  intros
  have hR : RtAt w w.heap.size v t (w.alloc (.cells v.cells 25)) := ⟨TVar.new w v, h.below (balloc _ _), balloc _ _⟩
  refine n0 _ _ (pcSeq (fun Q1 n1 r1 _ => rt_p1 hR.var hR.tab ?_))
  intros
  rename_i b hb
  refine n1 _ _ (pcSeq (fun Q2 n2 r2 _ => rt_p2 hR.var ?_ ?_))
  · intros
    rename_i b1 h16 hl
    refine n2 _ _ (pcSeq (fun Q3 n3 r3 _ => rt_l0 hR hl ?_ ?_))
    · intros
      rename_i wx hx hall
      refine n3 _ _ (rt_p14 ?_)
      intros
      refine rt_ret ⟨true, rfl, ⟨fun _ => ⟨hb.1 b1, by rw [h.cols.hlen]; exact h16, by rw [h.bins.hlen, h.cols.hlen]; exact hl, fun i hi => ?_⟩, fun _ => rfl⟩, hx.below⟩
      rw [h.ids.hlen]
      exact hall i (by rw [← h.cols.hlen]; exact hi)
    · intros
      rename_i wx hx hno
      refine r3 _ _ (rt_retF (hNo _ hx.below (fun q => hno (fun i hi => ?_))))
      rw [← h.ids.hlen]
      exact q.col i (by rw [h.cols.hlen]; exact hi)
  · intros
    rename_i hno
    exact r2 _ _ (rt_retF (hNo _ hR.below (fun q => hno ⟨hb.2 q.ids, by rw [← h.cols.hlen]; exact q.few, by rw [← h.bins.hlen, ← h.cols.hlen]; exact q.len⟩)))
end Go.Proofs.Ytaiikhbfnfcalaa

namespace Go.Proofs.Ytaiikhbfnfcalaa
open Go.RowKit

/-- Same, under way. -/
structure SmAt (w : World) (g h : Nat) (v u : TV) (t s : Tab) (W : World) : Prop where
  v1 : TVar W g v
  v2 : TVar W h u
  t1 : TabAt W v t
  t2 : TabAt W u s
  below : Below w.heap.size w W
theorem SmAt.grow {w : World} {g h : Nat} {v u : TV} {t s : Tab} {W W' : World} (k : SmAt w g h v u t s W) (hb : Below W.heap.size W W') : SmAt w g h v u t s W' := ⟨k.v1.below hb, k.v2.below hb, k.t1.below hb, k.t2.below hb, bthen k.below hb⟩

set_option maxRecDepth 100000 in
set_option maxHeartbeats 12800000 in
theorem sm_p0 {x2 x3 x4 x5 x6 x7 x8 x9 x10 x11 x12 x13 x14 x15 x16 x17 x18 x19 x20 x21 x22 x23 x24 x25 x26 x27 x28 x29 x30 x31 x32 x33 x34 x35 x36 x37 x38 x39 x40 x41 x42 x43 x44 x45 x46 x47 x48 x49 x50 x51 x52 x53 : Value} {Q : Exit → Act → World → Prop} {W : World} {v u : TV} 
    (hN : Q .normal ⟨#[.agg #[.slice v.p0 v.l0 v.c0, .slice v.p1 v.l1 v.c1, .slice v.p2 v.l2 v.c2], .agg #[.slice u.p0 u.l0 u.c0, .slice u.p1 u.l1 u.c1, .slice u.p2 u.l2 u.c2], .pointer (some ⟨W.heap.size, 0, none⟩), .pointer (some ⟨(W.heap.size + 1), 0, none⟩), .bool false, x5, x6, x7, x8, x9, x10, x11, x12, x13, x14, x15, x16, x17, x18, x19, x20, x21, x22, x23, x24, x25, x26, x27, x28, x29, x30, x31, x32, x33, x34, x35, x36, x37, x38, x39, x40, x41, x42, x43, x44, x45, x46, x47, x48, x49, x50, x51, x52, x53], []⟩ ((W.alloc (.cells v.cells 25)).alloc (.cells u.cells 25))) :
    Code.wp Try.prog ((Try.f17.body.bind (pcAt 0)).getD .skip) Q ⟨#[.agg #[.slice v.p0 v.l0 v.c0, .slice v.p1 v.l1 v.c1, .slice v.p2 v.l2 v.c2], .agg #[.slice u.p0 u.l0 u.c0, .slice u.p1 u.l1 u.c1, .slice u.p2 u.l2 u.c2], x2, x3, x4, x5, x6, x7, x8, x9, x10, x11, x12, x13, x14, x15, x16, x17, x18, x19, x20, x21, x22, x23, x24, x25, x26, x27, x28, x29, x30, x31, x32, x33, x34, x35, x36, x37, x38, x39, x40, x41, x42, x43, x44, x45, x46, x47, x48, x49, x50, x51, x52, x53], []⟩ W := by
  conv => arg 2; whnf
  have HN : Hid (Q .normal ⟨#[.agg #[.slice v.p0 v.l0 v.c0, .slice v.p1 v.l1 v.c1, .slice v.p2 v.l2 v.c2], .agg #[.slice u.p0 u.l0 u.c0, .slice u.p1 u.l1 u.c1, .slice u.p2 u.l2 u.c2], .pointer (some ⟨W.heap.size, 0, none⟩), .pointer (some ⟨(W.heap.size + 1), 0, none⟩), .bool false, x5, x6, x7, x8, x9, x10, x11, x12, x13, x14, x15, x16, x17, x18, x19, x20, x21, x22, x23, x24, x25, x26, x27, x28, x29, x30, x31, x32, x33, x34, x35, x36, x37, x38, x39, x40, x41, x42, x43, x44, x45, x46, x47, x48, x49, x50, x51, x52, x53], []⟩ ((W.alloc (.cells v.cells 25)).alloc (.cells u.cells 25))) := hN
  clear hN
  go_wp2_with fail
  exact HN.out   

set_option maxRecDepth 100000 in
set_option maxHeartbeats 12800000 in
theorem sm_p1 {x0 x1 x4 x5 x6 x7 x8 x9 x10 x11 x12 x13 x14 x15 x16 x17 x18 x19 x20 x21 x22 x23 x24 x25 x26 x27 x28 x29 x30 x31 x32 x33 x34 x35 x36 x37 x38 x39 x40 x41 x42 x43 x44 x45 x46 x47 x48 x49 x50 x51 x52 x53 : Value} {Q : Exit → Act → World → Prop} {W : World} {g h : Nat} {v u : TV} {t s : Tab} (hv : TVar W g v) (hu : TVar W h u) (ht : TabAt W v t) (hs : TabAt W u s)
    (hN : ∀ (wx : World) (y9 y10 y11 y12 y13 : Value), Below W.heap.size W wx → Q .normal ⟨#[x0, x1, .pointer (some ⟨g, 0, none⟩), .pointer (some ⟨h, 0, none⟩), x4, .bool (decide (t.ids = s.ids)), x6, x7, x8, y9, y10, y11, y12, y13, x14, x15, x16, x17, x18, x19, x20, x21, x22, x23, x24, x25, x26, x27, x28, x29, x30, x31, x32, x33, x34, x35, x36, x37, x38, x39, x40, x41, x42, x43, x44, x45, x46, x47, x48, x49, x50, x51, x52, x53], []⟩ wx) :
    Code.wp Try.prog ((Try.f17.body.bind (pcAt 1)).getD .skip) Q ⟨#[x0, x1, .pointer (some ⟨g, 0, none⟩), .pointer (some ⟨h, 0, none⟩), x4, x5, x6, x7, x8, x9, x10, x11, x12, x13, x14, x15, x16, x17, x18, x19, x20, x21, x22, x23, x24, x25, x26, x27, x28, x29, x30, x31, x32, x33, x34, x35, x36, x37, x38, x39, x40, x41, x42, x43, x44, x45, x46, x47, x48, x49, x50, x51, x52, x53], []⟩ W := by
  conv => arg 2; whnf
  have HN : Hid (∀ (wx : World) (y9 y10 y11 y12 y13 : Value), Below W.heap.size W wx → Q .normal ⟨#[x0, x1, .pointer (some ⟨g, 0, none⟩), .pointer (some ⟨h, 0, none⟩), x4, .bool (decide (t.ids = s.ids)), x6, x7, x8, y9, y10, y11, y12, y13, x14, x15, x16, x17, x18, x19, x20, x21, x22, x23, x24, x25, x26, x27, x28, x29, x30, x31, x32, x33, x34, x35, x36, x37, x38, x39, x40, x41, x42, x43, x44, x45, x46, x47, x48, x49, x50, x51, x52, x53], []⟩ wx) := hN
  clear hN
  have c0 := hv.cells.1
  have d0 := hu.cells.1
  have HC := (show Hid _ from r12si_any _ _ _ _ _ _ t.ids s.ids W ht.ids hs.ids)
  clear hv hu ht hs
  obtain ⟨z, hz⟩ : ∃ z, z = decide (t.ids = s.ids) := ⟨_, rfl⟩
  rw [← hz] at HC HN
  clear hz
  go_wp2_with fail
  refine Calls.mono HC.out ?_
  rintro e w2 ⟨rfl, hb⟩
  have HB : Hid (Below W.heap.size W w2) := hb
  clear hb HC
  go_wp2_with fail
  exact HN.out _ _ _ _ _ _ HB.out

set_option maxRecDepth 100000 in
set_option maxHeartbeats 12800000 in
theorem sm_p2 {x0 x1 x4 x5 x6 x7 x8 x9 x10 x11 x12 x13 x14 x15 x16 x17 x18 x19 x20 x21 x22 x23 x24 x25 x26 x27 x28 x29 x30 x31 x32 x33 x34 x35 x36 x37 x38 x39 x40 x41 x42 x43 x44 x45 x46 x47 x48 x49 x50 x51 x52 x53 : Value} {Q : Exit → Act → World → Prop} {W : World} {g h : Nat} {v u : TV} {t s : Tab} (hv : TVar W g v) (hu : TVar W h u) (ht : TabAt W v t) (hs : TabAt W u s)
    (hN : ∀ (wx : World) (y14 y15 y16 y17 y18 : Value), Below W.heap.size W wx → Q .normal ⟨#[x0, x1, .pointer (some ⟨g, 0, none⟩), .pointer (some ⟨h, 0, none⟩), x4, x5, .bool (decide (t.bins = s.bins)), x7, x8, x9, x10, x11, x12, x13, y14, y15, y16, y17, y18, x19, x20, x21, x22, x23, x24, x25, x26, x27, x28, x29, x30, x31, x32, x33, x34, x35, x36, x37, x38, x39, x40, x41, x42, x43, x44, x45, x46, x47, x48, x49, x50, x51, x52, x53], []⟩ wx) :
    Code.wp Try.prog ((Try.f17.body.bind (pcAt 2)).getD .skip) Q ⟨#[x0, x1, .pointer (some ⟨g, 0, none⟩), .pointer (some ⟨h, 0, none⟩), x4, x5, x6, x7, x8, x9, x10, x11, x12, x13, x14, x15, x16, x17, x18, x19, x20, x21, x22, x23, x24, x25, x26, x27, x28, x29, x30, x31, x32, x33, x34, x35, x36, x37, x38, x39, x40, x41, x42, x43, x44, x45, x46, x47, x48, x49, x50, x51, x52, x53], []⟩ W := by
  conv => arg 2; whnf
  have HN : Hid (∀ (wx : World) (y14 y15 y16 y17 y18 : Value), Below W.heap.size W wx → Q .normal ⟨#[x0, x1, .pointer (some ⟨g, 0, none⟩), .pointer (some ⟨h, 0, none⟩), x4, x5, .bool (decide (t.bins = s.bins)), x7, x8, x9, x10, x11, x12, x13, y14, y15, y16, y17, y18, x19, x20, x21, x22, x23, x24, x25, x26, x27, x28, x29, x30, x31, x32, x33, x34, x35, x36, x37, x38, x39, x40, x41, x42, x43, x44, x45, x46, x47, x48, x49, x50, x51, x52, x53], []⟩ wx) := hN
  clear hN
  have c0 := hv.cells.2.1
  have d0 := hu.cells.2.1
  have HC := (show Hid _ from r12si_any _ _ _ _ _ _ t.bins s.bins W ht.bins hs.bins)
  clear hv hu ht hs
  obtain ⟨z, hz⟩ : ∃ z, z = decide (t.bins = s.bins) := ⟨_, rfl⟩
  rw [← hz] at HC HN
  clear hz
  go_wp2_with fail
  refine Calls.mono HC.out ?_
  rintro e w2 ⟨rfl, hb⟩
  have HB : Hid (Below W.heap.size W w2) := hb
  clear hb HC
  go_wp2_with fail
  exact HN.out _ _ _ _ _ _ HB.out

set_option maxRecDepth 100000 in
set_option maxHeartbeats 12800000 in
theorem sm_p3 {x0 x1 x4 x7 x8 x9 x10 x11 x12 x13 x14 x15 x16 x17 x18 x19 x20 x21 x22 x23 x24 x25 x26 x27 x28 x29 x30 x31 x32 x33 x34 x35 x36 x37 x38 x39 x40 x41 x42 x43 x44 x45 x46 x47 x48 x49 x50 x51 x52 x53 : Value} {Q : Exit → Act → World → Prop} {W : World} {g h : Nat} {v u : TV} {a b : Bool} (hv : TVar W g v) (hu : TVar W h u)
    (hN : ∀ (y4 y19 y20 y21 y22 y23 y24 y25 y26 y27 y28 y29 y30 y31 y32 y33 : Value), a = true → b = true → v.l2 = u.l2 → Q .normal ⟨#[x0, x1, .pointer (some ⟨g, 0, none⟩), .pointer (some ⟨h, 0, none⟩), y4, .bool a, .bool b, x7, x8, x9, x10, x11, x12, x13, x14, x15, x16, x17, x18, y19, y20, y21, y22, y23, y24, y25, y26, y27, y28, y29, y30, y31, y32, y33, x34, x35, x36, x37, x38, x39, x40, x41, x42, x43, x44, x45, x46, x47, x48, x49, x50, x51, x52, x53], []⟩ W)
    (hR : ∀ (y19 y20 y21 y22 y23 y24 y25 y26 y27 y28 y29 y30 y31 y32 y33 : Value), ¬ (a = true ∧ b = true ∧ v.l2 = u.l2) → Q .ret ⟨#[x0, x1, .pointer (some ⟨g, 0, none⟩), .pointer (some ⟨h, 0, none⟩), .bool false, .bool a, .bool b, x7, x8, x9, x10, x11, x12, x13, x14, x15, x16, x17, x18, y19, y20, y21, y22, y23, y24, y25, y26, y27, y28, y29, y30, y31, y32, y33, x34, x35, x36, x37, x38, x39, x40, x41, x42, x43, x44, x45, x46, x47, x48, x49, x50, x51, x52, x53], []⟩ W) :
    Code.wp Try.prog ((Try.f17.body.bind (pcAt 3)).getD .skip) Q ⟨#[x0, x1, .pointer (some ⟨g, 0, none⟩), .pointer (some ⟨h, 0, none⟩), x4, .bool a, .bool b, x7, x8, x9, x10, x11, x12, x13, x14, x15, x16, x17, x18, x19, x20, x21, x22, x23, x24, x25, x26, x27, x28, x29, x30, x31, x32, x33, x34, x35, x36, x37, x38, x39, x40, x41, x42, x43, x44, x45, x46, x47, x48, x49, x50, x51, x52, x53], []⟩ W := by
  conv => arg 2; whnf
  have HN : Hid (∀ (y4 y19 y20 y21 y22 y23 y24 y25 y26 y27 y28 y29 y30 y31 y32 y33 : Value), a = true → b = true → v.l2 = u.l2 → Q .normal ⟨#[x0, x1, .pointer (some ⟨g, 0, none⟩), .pointer (some ⟨h, 0, none⟩), y4, .bool a, .bool b, x7, x8, x9, x10, x11, x12, x13, x14, x15, x16, x17, x18, y19, y20, y21, y22, y23, y24, y25, y26, y27, y28, y29, y30, y31, y32, y33, x34, x35, x36, x37, x38, x39, x40, x41, x42, x43, x44, x45, x46, x47, x48, x49, x50, x51, x52, x53], []⟩ W) := hN
  have HR : Hid (∀ (y19 y20 y21 y22 y23 y24 y25 y26 y27 y28 y29 y30 y31 y32 y33 : Value), ¬ (a = true ∧ b = true ∧ v.l2 = u.l2) → Q .ret ⟨#[x0, x1, .pointer (some ⟨g, 0, none⟩), .pointer (some ⟨h, 0, none⟩), .bool false, .bool a, .bool b, x7, x8, x9, x10, x11, x12, x13, x14, x15, x16, x17, x18, y19, y20, y21, y22, y23, y24, y25, y26, y27, y28, y29, y30, y31, y32, y33, x34, x35, x36, x37, x38, x39, x40, x41, x42, x43, x44, x45, x46, x47, x48, x49, x50, x51, x52, x53], []⟩ W) := hR
  clear hN hR
  have c2 := hv.cells.2.2.1
  have d2 := hu.cells.2.2.1
  clear hv hu
  cases a with
  | false =>
    clear HN
    go_wp2_with fail
    exact HR.out  _ _ _ _ _ _ _ _ _ _ _ _ _ _ _ (fun e => by cases e.1)
  | true =>
    cases b with
    | false =>
      clear HN
      go_wp2_with fail
      exact HR.out  _ _ _ _ _ _ _ _ _ _ _ _ _ _ _ (fun e => by cases e.2.1)
    | true =>
      by_cases h2 : v.l2 = u.l2
      · have e2 : ((v.l2 : Int) != (u.l2 : Int)) = false := by simp [h2]
        have e2e : ((v.l2 : Int) == (u.l2 : Int)) = true := by simp [h2]
        have HX : Hid (v.l2 = u.l2) := h2
        clear HR h2
        go_wp2_with fail
        exact HN.out  _ _ _ _ _ _ _ _ _ _ _ _ _ _ _ _ (by trivial) (by trivial) HX.out
      · have e2 : ((v.l2 : Int) != (u.l2 : Int)) = true := by simp; omega
        have e2e : ((v.l2 : Int) == (u.l2 : Int)) = false := by simp; omega
        have HX : Hid (¬ (true = true ∧ true = true ∧ v.l2 = u.l2)) := fun e => h2 e.2.2
        clear HN h2
        go_wp2_with fail
        exact HR.out  _ _ _ _ _ _ _ _ _ _ _ _ _ _ _ HX.out

set_option maxRecDepth 100000 in
set_option maxHeartbeats 12800000 in
theorem sm_t6 {x0 x1 x3 x4 x5 x6 x8 x9 x10 x11 x12 x13 x14 x15 x16 x17 x18 x19 x20 x21 x22 x23 x24 x25 x26 x27 x28 x29 x30 x31 x32 x33 x34 x35 x36 x37 x38 x39 x40 x41 x42 x43 x44 x45 x46 x47 x48 x49 x50 x51 x52 x53 : Value} {Q : Exit → Act → World → Prop} {W : World} {g i : Nat} {v : TV} (hv : TVar W g v) (hi : i ≤ v.l2)
    (hN : ∀ (y34 y35 y36 y37 y38 : Value), i < v.l2 → Q .normal ⟨#[x0, x1, .pointer (some ⟨g, 0, none⟩), x3, x4, x5, x6, .int .i64 (i : Int), x8, x9, x10, x11, x12, x13, x14, x15, x16, x17, x18, x19, x20, x21, x22, x23, x24, x25, x26, x27, x28, x29, x30, x31, x32, x33, y34, y35, y36, y37, y38, x39, x40, x41, x42, x43, x44, x45, x46, x47, x48, x49, x50, x51, x52, x53], []⟩ W)
    (hE : ∀ (y34 y35 y36 y37 y38 : Value), i = v.l2 → Q (.exit 0) ⟨#[x0, x1, .pointer (some ⟨g, 0, none⟩), x3, x4, x5, x6, .int .i64 (i : Int), x8, x9, x10, x11, x12, x13, x14, x15, x16, x17, x18, x19, x20, x21, x22, x23, x24, x25, x26, x27, x28, x29, x30, x31, x32, x33, y34, y35, y36, y37, y38, x39, x40, x41, x42, x43, x44, x45, x46, x47, x48, x49, x50, x51, x52, x53], []⟩ W) :
    Code.wp Try.prog (((Try.f17.body.bind (pcLoop 0)).bind (pcAt 6)).getD .skip) Q ⟨#[x0, x1, .pointer (some ⟨g, 0, none⟩), x3, x4, x5, x6, .int .i64 (i : Int), x8, x9, x10, x11, x12, x13, x14, x15, x16, x17, x18, x19, x20, x21, x22, x23, x24, x25, x26, x27, x28, x29, x30, x31, x32, x33, x34, x35, x36, x37, x38, x39, x40, x41, x42, x43, x44, x45, x46, x47, x48, x49, x50, x51, x52, x53], []⟩ W := by
  conv => arg 2; whnf
  have HN : Hid (∀ (y34 y35 y36 y37 y38 : Value), i < v.l2 → Q .normal ⟨#[x0, x1, .pointer (some ⟨g, 0, none⟩), x3, x4, x5, x6, .int .i64 (i : Int), x8, x9, x10, x11, x12, x13, x14, x15, x16, x17, x18, x19, x20, x21, x22, x23, x24, x25, x26, x27, x28, x29, x30, x31, x32, x33, y34, y35, y36, y37, y38, x39, x40, x41, x42, x43, x44, x45, x46, x47, x48, x49, x50, x51, x52, x53], []⟩ W) := hN
  have HE : Hid (∀ (y34 y35 y36 y37 y38 : Value), i = v.l2 → Q (.exit 0) ⟨#[x0, x1, .pointer (some ⟨g, 0, none⟩), x3, x4, x5, x6, .int .i64 (i : Int), x8, x9, x10, x11, x12, x13, x14, x15, x16, x17, x18, x19, x20, x21, x22, x23, x24, x25, x26, x27, x28, x29, x30, x31, x32, x33, y34, y35, y36, y37, y38, x39, x40, x41, x42, x43, x44, x45, x46, x47, x48, x49, x50, x51, x52, x53], []⟩ W) := hE
  clear hN hE
  have c2 := hv.cells.2.2.1
  clear hv
  by_cases hlt : i < v.l2
  · have hlti : (i : Int) < (v.l2 : Int) := by omega
    clear HE
    go_wp2_with fail
    exact HN.out  _ _ _ _ _ hlt
  · have hlti : decide (i < v.l2) = false := decide_eq_false hlt
    have HE2 : Hid (i = v.l2) := by show _ = _; omega
    clear HN hi
    go_wp2_with fail
    exact HE.out  _ _ _ _ _ HE2.out

set_option maxRecDepth 100000 in
set_option maxHeartbeats 12800000 in
theorem sm_p8 {x0 x1 x4 x5 x6 x8 x9 x10 x11 x12 x13 x14 x15 x16 x17 x18 x19 x20 x21 x22 x23 x24 x25 x26 x27 x28 x29 x30 x31 x32 x33 x34 x35 x36 x37 x38 x39 x40 x41 x42 x43 x44 x45 x46 x47 x48 x49 x50 x51 x52 x53 : Value} {Q : Exit → Act → World → Prop} {W : World} {g h i b1 o1 l1 k1 b2 o2 l2 k2 n1 m1 n2 m2 : Nat} {q1 q2 : Option Addr} {xs ys : List Int} (c2 : W.cell? ⟨g, 2, none⟩ = some (.slice (some ⟨b1, o1, none⟩) l1 k1)) (d2 : W.cell? ⟨h, 2, none⟩ = some (.slice (some ⟨b2, o2, none⟩) l2 k2)) (e1 : W.cell? ⟨b1, o1 + i, none⟩ = some (.slice q1 n1 m1)) (e2 : W.cell? ⟨b2, o2 + i, none⟩ = some (.slice q2 n2 m2)) (hi1 : i < l1) (hi2 : i < l2) (hx : Lsts W q1 n1 m1 xs) (hy : Lsts W q2 n2 m2 ys)
    (hN : ∀ (wx : World) (y41 y42 y43 y44 y45 y46 y47 y48 y49 y50 y51 : Value), Below W.heap.size W wx → Q .normal ⟨#[x0, x1, .pointer (some ⟨g, 0, none⟩), .pointer (some ⟨h, 0, none⟩), x4, x5, x6, .int .i64 (i : Int), .bool (decide (xs = ys)), x9, x10, x11, x12, x13, x14, x15, x16, x17, x18, x19, x20, x21, x22, x23, x24, x25, x26, x27, x28, x29, x30, x31, x32, x33, x34, x35, x36, x37, x38, x39, x40, y41, y42, y43, y44, y45, y46, y47, y48, y49, y50, y51, x52, x53], []⟩ wx) :
    Code.wp Try.prog (((Try.f17.body.bind (pcBlk 1)).bind (pcAt 8)).getD .skip) Q ⟨#[x0, x1, .pointer (some ⟨g, 0, none⟩), .pointer (some ⟨h, 0, none⟩), x4, x5, x6, .int .i64 (i : Int), x8, x9, x10, x11, x12, x13, x14, x15, x16, x17, x18, x19, x20, x21, x22, x23, x24, x25, x26, x27, x28, x29, x30, x31, x32, x33, x34, x35, x36, x37, x38, x39, x40, x41, x42, x43, x44, x45, x46, x47, x48, x49, x50, x51, x52, x53], []⟩ W := by
  conv => arg 2; whnf
  have HN : Hid (∀ (wx : World) (y41 y42 y43 y44 y45 y46 y47 y48 y49 y50 y51 : Value), Below W.heap.size W wx → Q .normal ⟨#[x0, x1, .pointer (some ⟨g, 0, none⟩), .pointer (some ⟨h, 0, none⟩), x4, x5, x6, .int .i64 (i : Int), .bool (decide (xs = ys)), x9, x10, x11, x12, x13, x14, x15, x16, x17, x18, x19, x20, x21, x22, x23, x24, x25, x26, x27, x28, x29, x30, x31, x32, x33, x34, x35, x36, x37, x38, x39, x40, y41, y42, y43, y44, y45, y46, y47, y48, y49, y50, y51, x52, x53], []⟩ wx) := hN
  clear hN
  have f1 : (i : Int) < (l1 : Int) := by omega
  have f2 : (i : Int) < (l2 : Int) := by omega
  have f0 : (0 : Int) ≤ (i : Int) := by omega
  have HC : Hid (∀ wx : World, wx.heap = W.heap → wx.os = W.os → wx.tape = W.tape → wx.output = W.output → Calls Try.prog 14 #[.slice q1 n1 m1, .slice q2 n2 m2] wx fun e w' => e = .returned (.bool (decide (xs = ys))) ∧ Hid (Below W.heap.size W w')) := fun wx y1 y2 y3 y4 => by
    have hb : Below W.heap.size W wx := ⟨y2, y3, y4, by rw [y1]; exact Nat.le_refl _, fun _ _ => by rw [y1]⟩
    exact (r12si_any q1 q2 n1 m1 n2 m2 xs ys wx (hx.below hb) (hy.below hb)).mono fun e w' h => ⟨h.1, bthen hb h.2⟩
  clear hx hy hi1 hi2
  obtain ⟨z, hz⟩ : ∃ z, z = decide (xs = ys) := ⟨_, rfl⟩
  rw [← hz] at HC HN
  clear hz
  refine wp_pcOnly ?_
  go_wp2_with fail
  go_region_with (first
    | (go_at_call 14; with_reducible refine Calls.mono (HC.out _ rfl rfl rfl rfl) ?_; rintro e w3 ⟨rfl, hZ⟩))
  all_goals
    clear HC c2 d2 e1 e2
    go_wp2_with fail
    exact HN.out _ _ _ _ _ _ _ _ _ _ _ _ hZ.out

set_option maxRecDepth 100000 in
set_option maxHeartbeats 12800000 in
theorem sm_p9 {x0 x1 x2 x3 x4 x5 x6 x7 x9 x10 x11 x12 x13 x14 x15 x16 x17 x18 x19 x20 x21 x22 x23 x24 x25 x26 x27 x28 x29 x30 x31 x32 x33 x34 x35 x36 x37 x38 x39 x40 x41 x42 x43 x44 x45 x46 x47 x48 x49 x50 x51 x52 x53 : Value} {Q : Exit → Act → World → Prop} {W : World} {z : Bool} 
    (hN : ∀ (y4 y52 y53 : Value), z = true → Q .normal ⟨#[x0, x1, x2, x3, y4, x5, x6, x7, .bool z, x9, x10, x11, x12, x13, x14, x15, x16, x17, x18, x19, x20, x21, x22, x23, x24, x25, x26, x27, x28, x29, x30, x31, x32, x33, x34, x35, x36, x37, x38, x39, x40, x41, x42, x43, x44, x45, x46, x47, x48, x49, x50, x51, y52, y53], []⟩ W)
    (hR : ∀ (y52 y53 : Value), z = false → Q .ret ⟨#[x0, x1, x2, x3, .bool false, x5, x6, x7, .bool z, x9, x10, x11, x12, x13, x14, x15, x16, x17, x18, x19, x20, x21, x22, x23, x24, x25, x26, x27, x28, x29, x30, x31, x32, x33, x34, x35, x36, x37, x38, x39, x40, x41, x42, x43, x44, x45, x46, x47, x48, x49, x50, x51, y52, y53], []⟩ W) :
    Code.wp Try.prog (((Try.f17.body.bind (pcBlk 1)).bind (pcFrom 9)).getD .skip) Q ⟨#[x0, x1, x2, x3, x4, x5, x6, x7, .bool z, x9, x10, x11, x12, x13, x14, x15, x16, x17, x18, x19, x20, x21, x22, x23, x24, x25, x26, x27, x28, x29, x30, x31, x32, x33, x34, x35, x36, x37, x38, x39, x40, x41, x42, x43, x44, x45, x46, x47, x48, x49, x50, x51, x52, x53], []⟩ W := by
  conv => arg 2; whnf
  have HN : Hid (∀ (y4 y52 y53 : Value), z = true → Q .normal ⟨#[x0, x1, x2, x3, y4, x5, x6, x7, .bool z, x9, x10, x11, x12, x13, x14, x15, x16, x17, x18, x19, x20, x21, x22, x23, x24, x25, x26, x27, x28, x29, x30, x31, x32, x33, x34, x35, x36, x37, x38, x39, x40, x41, x42, x43, x44, x45, x46, x47, x48, x49, x50, x51, y52, y53], []⟩ W) := hN
  have HR : Hid (∀ (y52 y53 : Value), z = false → Q .ret ⟨#[x0, x1, x2, x3, .bool false, x5, x6, x7, .bool z, x9, x10, x11, x12, x13, x14, x15, x16, x17, x18, x19, x20, x21, x22, x23, x24, x25, x26, x27, x28, x29, x30, x31, x32, x33, x34, x35, x36, x37, x38, x39, x40, x41, x42, x43, x44, x45, x46, x47, x48, x49, x50, x51, y52, y53], []⟩ W) := hR
  clear hN hR
  cases z with
  | true =>
    clear HR
    go_wp2_with fail
    exact HN.out  _ _ _ (by trivial)
  | false =>
    clear HN
    go_wp2_with fail
    exact HR.out  _ _ (by trivial)

set_option maxRecDepth 100000 in
set_option maxHeartbeats 12800000 in
theorem sm_p7 {x0 x1 x2 x3 x4 x5 x6 x8 x9 x10 x11 x12 x13 x14 x15 x16 x17 x18 x19 x20 x21 x22 x23 x24 x25 x26 x27 x28 x29 x30 x31 x32 x33 x34 x35 x36 x37 x38 x39 x40 x41 x42 x43 x44 x45 x46 x47 x48 x49 x50 x51 x52 x53 : Value} {Q : Exit → Act → World → Prop} {W : World} {i : Nat} (h : i < 9223372036854775807)
    (hN : ∀ (y39 y40 : Value), Q .normal ⟨#[x0, x1, x2, x3, x4, x5, x6, .int .i64 ((i + 1 : Nat) : Int), x8, x9, x10, x11, x12, x13, x14, x15, x16, x17, x18, x19, x20, x21, x22, x23, x24, x25, x26, x27, x28, x29, x30, x31, x32, x33, x34, x35, x36, x37, x38, y39, y40, x41, x42, x43, x44, x45, x46, x47, x48, x49, x50, x51, x52, x53], []⟩ W) :
    Code.wp Try.prog (((Try.f17.body.bind (pcLoop 0)).bind (pcAt 7)).getD .skip) Q ⟨#[x0, x1, x2, x3, x4, x5, x6, .int .i64 (i : Int), x8, x9, x10, x11, x12, x13, x14, x15, x16, x17, x18, x19, x20, x21, x22, x23, x24, x25, x26, x27, x28, x29, x30, x31, x32, x33, x34, x35, x36, x37, x38, x39, x40, x41, x42, x43, x44, x45, x46, x47, x48, x49, x50, x51, x52, x53], []⟩ W := by
  conv => arg 2; whnf
  have HN : Hid (∀ (y39 y40 : Value), Q .normal ⟨#[x0, x1, x2, x3, x4, x5, x6, .int .i64 ((i + 1 : Nat) : Int), x8, x9, x10, x11, x12, x13, x14, x15, x16, x17, x18, x19, x20, x21, x22, x23, x24, x25, x26, x27, x28, x29, x30, x31, x32, x33, x34, x35, x36, x37, x38, y39, y40, x41, x42, x43, x44, x45, x46, x47, x48, x49, x50, x51, x52, x53], []⟩ W) := hN
  clear hN
  have e : ((i + 1 : Nat) : Int) = (i : Int) + 1 := by omega
  rw [e] at HN
  go_wp2_with fail
  exact HN.out  _ _ 

set_option maxRecDepth 100000 in
set_option maxHeartbeats 12800000 in
theorem sm_l0 {x0 x1 x4 x5 x6 x7 x8 x9 x10 x11 x12 x13 x14 x15 x16 x17 x18 x19 x20 x21 x22 x23 x24 x25 x26 x27 x28 x29 x30 x31 x32 x33 x34 x35 x36 x37 x38 x39 x40 x41 x42 x43 x44 x45 x46 x47 x48 x49 x50 x51 x52 x53 : Value} {Q : Exit → Act → World → Prop} {w W : World} {g h : Nat} {v u : TV} {t s : Tab} (k : SmAt w g h v u t s W) (hl : v.l2 = u.l2)
    (hN : ∀ (wx : World) (y4 y7 y8 y34 y35 y36 y37 y38 y39 y40 y41 y42 y43 y44 y45 y46 y47 y48 y49 y50 y51 y52 y53 : Value), SmAt w g h v u t s wx → (∀ i, i < v.l2 → t.cols.getD i [] = s.cols.getD i []) → Q .normal ⟨#[x0, x1, .pointer (some ⟨g, 0, none⟩), .pointer (some ⟨h, 0, none⟩), y4, x5, x6, y7, y8, x9, x10, x11, x12, x13, x14, x15, x16, x17, x18, x19, x20, x21, x22, x23, x24, x25, x26, x27, x28, x29, x30, x31, x32, x33, y34, y35, y36, y37, y38, y39, y40, y41, y42, y43, y44, y45, y46, y47, y48, y49, y50, y51, y52, y53], []⟩ wx)
    (hR : ∀ (wx : World) (y7 y8 y34 y35 y36 y37 y38 y39 y40 y41 y42 y43 y44 y45 y46 y47 y48 y49 y50 y51 y52 y53 : Value), SmAt w g h v u t s wx → ¬ (∀ i, i < v.l2 → t.cols.getD i [] = s.cols.getD i []) → Q .ret ⟨#[x0, x1, .pointer (some ⟨g, 0, none⟩), .pointer (some ⟨h, 0, none⟩), .bool false, x5, x6, y7, y8, x9, x10, x11, x12, x13, x14, x15, x16, x17, x18, x19, x20, x21, x22, x23, x24, x25, x26, x27, x28, x29, x30, x31, x32, x33, y34, y35, y36, y37, y38, y39, y40, y41, y42, y43, y44, y45, y46, y47, y48, y49, y50, y51, y52, y53], []⟩ wx) :
    Code.wp Try.prog ((Try.f17.body.bind (pcAt 5)).getD .skip) Q ⟨#[x0, x1, .pointer (some ⟨g, 0, none⟩), .pointer (some ⟨h, 0, none⟩), x4, x5, x6, x7, x8, x9, x10, x11, x12, x13, x14, x15, x16, x17, x18, x19, x20, x21, x22, x23, x24, x25, x26, x27, x28, x29, x30, x31, x32, x33, x34, x35, x36, x37, x38, x39, x40, x41, x42, x43, x44, x45, x46, x47, x48, x49, x50, x51, x52, x53], []⟩ W := by
  conv => arg 2; whnf
  have HN : Hid (∀ (wx : World) (y4 y7 y8 y34 y35 y36 y37 y38 y39 y40 y41 y42 y43 y44 y45 y46 y47 y48 y49 y50 y51 y52 y53 : Value), SmAt w g h v u t s wx → (∀ i, i < v.l2 → t.cols.getD i [] = s.cols.getD i []) → Q .normal ⟨#[x0, x1, .pointer (some ⟨g, 0, none⟩), .pointer (some ⟨h, 0, none⟩), y4, x5, x6, y7, y8, x9, x10, x11, x12, x13, x14, x15, x16, x17, x18, x19, x20, x21, x22, x23, x24, x25, x26, x27, x28, x29, x30, x31, x32, x33, y34, y35, y36, y37, y38, y39, y40, y41, y42, y43, y44, y45, y46, y47, y48, y49, y50, y51, y52, y53], []⟩ wx) := hN
  have HR : Hid (∀ (wx : World) (y7 y8 y34 y35 y36 y37 y38 y39 y40 y41 y42 y43 y44 y45 y46 y47 y48 y49 y50 y51 y52 y53 : Value), SmAt w g h v u t s wx → ¬ (∀ i, i < v.l2 → t.cols.getD i [] = s.cols.getD i []) → Q .ret ⟨#[x0, x1, .pointer (some ⟨g, 0, none⟩), .pointer (some ⟨h, 0, none⟩), .bool false, x5, x6, y7, y8, x9, x10, x11, x12, x13, x14, x15, x16, x17, x18, x19, x20, x21, x22, x23, x24, x25, x26, x27, x28, x29, x30, x31, x32, x33, y34, y35, y36, y37, y38, y39, y40, y41, y42, y43, y44, y45, y46, y47, y48, y49, y50, y51, y52, y53], []⟩ wx) := hR
  clear hN hR
  have hm := k.t1.cols.hmax
  have hc := k.t1.cols.hcap
  unfold maxLen at hm
  refine pcSeq (fun Q1 n1 r1 _ => ?_)
  go_wp2_with fail
  refine n1 _ _ (pcBlock (fun Q2 n2 e2 r2 => ?_))
  go_loopw [7] (fun v7 wr => ∃ i : Nat, v7 = .int .i64 (i : Int) ∧ i ≤ v.l2 ∧ SmAt w g h v u t s wr ∧ ∀ j, j < i → t.cols.getD j [] = s.cols.getD j []) (fun v7 _ => v.l2 - (intOf v7).toNat)
  case atStart => exact ⟨0, rfl, Nat.zero_le _, k, fun j hj => absurd hj (by omega)⟩
  case round =>
    clear k
    obtain ⟨i, rfl, hi, k, hall⟩ := hrel
    refine pcSeq (fun Q3 n3 r3 e3 => sm_t6 k.v1 hi ?_ ?_)
    · intros
      rename_i hlt
      refine n3 _ _ (pcSeq (fun Q4 n4 r4 e4 => pcBlock (fun Q5 n5 e5 r5 => ?_)))
      have c2 := k.v1.cells.2.2.1
      have d2 := k.v2.cells.2.2.1
      obtain ⟨b1, o1, q1, m1, k1, f1, f2, f3⟩ := k.t1.cols.at hlt
      obtain ⟨b2, o2, q2, m2, k2, f4, f5, f6⟩ := k.t2.cols.at (i := i) (by omega)
      rw [f1] at c2
      rw [f4] at d2
      refine pcSeq (fun Q6 n6 r6 e6 => sm_p8 c2 d2 f2 f5 hlt (by omega) f3 f6 ?_)
      intros
      rename_i wx hb
      refine n6 _ _ (sm_p9 ?_ ?_)
      · intros
        rename_i hz
        refine n5 _ _ (n4 _ _ (sm_p7 (by omega) ?_))
        intros
        dsimp only [Exit.then]
        go_roundw
        case rel => exact ⟨i + 1, by go_num, hlt, k.grow hb, fun j hj => by
          by_cases e : j = i
          · rw [e]; exact of_decide_eq_true hz
          · exact hall j (by omega)⟩
        case measure => simp [intOf]; omega
      · intros
        rename_i hz
        exact r5 _ _ (r4 _ _ (r2 _ _ (HR.out _ _ _ _ _ _ _ _ _ _ _ _ _ _ _ _ _ _ _ _ _ _ _ (k.grow hb) (fun q => of_decide_eq_false hz (q i hlt)))))
    · intros
      rename_i he
      subst he
      exact e3 _ _ _ (e2 _ _ (HN.out _ _ _ _ _ _ _ _ _ _ _ _ _ _ _ _ _ _ _ _ _ _ _ _ k hall))

set_option maxRecDepth 100000 in
set_option maxHeartbeats 12800000 in
theorem sm_p11 {x0 x1 x2 x3 x4 x5 x6 x7 x8 x9 x10 x11 x12 x13 x14 x15 x16 x17 x18 x19 x20 x21 x22 x23 x24 x25 x26 x27 x28 x29 x30 x31 x32 x33 x34 x35 x36 x37 x38 x39 x40 x41 x42 x43 x44 x45 x46 x47 x48 x49 x50 x51 x52 x53 : Value} {Q : Exit → Act → World → Prop} {W : World} 
    (hR : Q .ret ⟨#[x0, x1, x2, x3, .bool true, x5, x6, x7, x8, x9, x10, x11, x12, x13, x14, x15, x16, x17, x18, x19, x20, x21, x22, x23, x24, x25, x26, x27, x28, x29, x30, x31, x32, x33, x34, x35, x36, x37, x38, x39, x40, x41, x42, x43, x44, x45, x46, x47, x48, x49, x50, x51, x52, x53], []⟩ W) :
    Code.wp Try.prog ((Try.f17.body.bind (pcFrom 11)).getD .skip) Q ⟨#[x0, x1, x2, x3, x4, x5, x6, x7, x8, x9, x10, x11, x12, x13, x14, x15, x16, x17, x18, x19, x20, x21, x22, x23, x24, x25, x26, x27, x28, x29, x30, x31, x32, x33, x34, x35, x36, x37, x38, x39, x40, x41, x42, x43, x44, x45, x46, x47, x48, x49, x50, x51, x52, x53], []⟩ W := by
  conv => arg 2; whnf
  have HR : Hid (Q .ret ⟨#[x0, x1, x2, x3, .bool true, x5, x6, x7, x8, x9, x10, x11, x12, x13, x14, x15, x16, x17, x18, x19, x20, x21, x22, x23, x24, x25, x26, x27, x28, x29, x30, x31, x32, x33, x34, x35, x36, x37, x38, x39, x40, x41, x42, x43, x44, x45, x46, x47, x48, x49, x50, x51, x52, x53], []⟩ W) := hR
  clear hR
  go_wp2_with fail
  exact HR.out   

set_option maxRecDepth 100000 in
theorem sm_ret {x0 x1 x2 x3 x5 x6 x7 x8 x9 x10 x11 x12 x13 x14 x15 x16 x17 x18 x19 x20 x21 x22 x23 x24 x25 x26 x27 x28 x29 x30 x31 x32 x33 x34 x35 x36 x37 x38 x39 x40 x41 x42 x43 x44 x45 x46 x47 x48 x49 x50 x51 x52 x53 : Value}  {post : Ending → World → Prop} {W : World} (h : post (.returned (.bool true)) W) : bodyPost Try.prog Try.f17 post .ret ⟨#[x0, x1, x2, x3, .bool true, x5, x6, x7, x8, x9, x10, x11, x12, x13, x14, x15, x16, x17, x18, x19, x20, x21, x22, x23, x24, x25, x26, x27, x28, x29, x30, x31, x32, x33, x34, x35, x36, x37, x38, x39, x40, x41, x42, x43, x44, x45, x46, x47, x48, x49, x50, x51, x52, x53], []⟩ W :=
  bodyPost_ret (v := .bool true) (by simp [results, Try.results17, go_sem]) rfl h

set_option maxRecDepth 100000 in
theorem sm_retF {x0 x1 x2 x3 x5 x6 x7 x8 x9 x10 x11 x12 x13 x14 x15 x16 x17 x18 x19 x20 x21 x22 x23 x24 x25 x26 x27 x28 x29 x30 x31 x32 x33 x34 x35 x36 x37 x38 x39 x40 x41 x42 x43 x44 x45 x46 x47 x48 x49 x50 x51 x52 x53 : Value}  {post : Ending → World → Prop} {W : World} (h : post (.returned (.bool false)) W) : bodyPost Try.prog Try.f17 post .ret ⟨#[x0, x1, x2, x3, .bool false, x5, x6, x7, x8, x9, x10, x11, x12, x13, x14, x15, x16, x17, x18, x19, x20, x21, x22, x23, x24, x25, x26, x27, x28, x29, x30, x31, x32, x33, x34, x35, x36, x37, x38, x39, x40, x41, x42, x43, x44, x45, x46, x47, x48, x49, x50, x51, x52, x53], []⟩ W :=
  bodyPost_ret (v := .bool false) (by simp [results, Try.results17, go_sem]) rfl h

theorem Tab.ext_of {t s : Tab} (h1 : t.ids = s.ids) (h2 : t.bins = s.bins) (h3 : t.cols.length = s.cols.length) (h4 : ∀ i, i < t.cols.length → t.cols.getD i [] = s.cols.getD i []) : t = s := by
  obtain ⟨a, b, c⟩ := t
  obtain ⟨a', b', c'⟩ := s
  dsimp only at h1 h2 h3 h4
  have : c = c' := by
    apply List.ext_getElem h3
    intro i k1 k2
    have := h4 i k1
    simpa [List.getD, List.getElem?_eq_getElem k1, List.getElem?_eq_getElem k2] using this
  rw [h1, h2, this]
def SameT15 (t s : Tab) (w : World) (e : Ending) (w' : World) : Prop := ∃ b, e = .returned (.bool b) ∧ (b = true ↔ t = s) ∧ Below w.heap.size w w'
set_option maxRecDepth 100000 in
set_option maxHeartbeats 3200000 in
theorem r15same_any (v u : TV) (t s : Tab) (w : World) (ht : TabAt w v t) (hs : TabAt w u s) : Calls Try.prog 17 #[.agg #[.slice v.p0 v.l0 v.c0, .slice v.p1 v.l1 v.c1, .slice v.p2 v.l2 v.c2], .agg #[.slice u.p0 u.l0 u.c0, .slice u.p1 u.l1 u.c1, .slice u.p2 u.l2 u.c2]] w fun e w' => SameT15 t s w e w' := by
  have hNo : ∀ W, Below w.heap.size w W → t ≠ s → SameT15 t s w (.returned (.bool false)) W := fun W hb q => ⟨false, rfl, ⟨fun e => (by cases e), fun e => absurd e q⟩, hb⟩
  go_enter Try.func17, Try.ntmps17
  refine pcSeq (fun Q0 n0 r0 _ => sm_p0 ?_)
  intros
  have hb1 := balloc w (.cells v.cells 25)
  have hb2 := balloc (w.alloc (.cells v.cells 25)) (.cells u.cells 25)
  have hu : TVar ((w.alloc (.cells v.cells 25)).alloc (.cells u.cells 25)) (w.heap.size + 1) u := by
    have := TVar.new (w.alloc (.cells v.cells 25)) u
    simpa using this
  have hR : SmAt w w.heap.size (w.heap.size + 1) v u t s ((w.alloc (.cells v.cells 25)).alloc (.cells u.cells 25)) := ⟨(TVar.new w v).below hb2, hu, (ht.below hb1).below hb2, (hs.below hb1).below hb2, bthen hb1 hb2⟩
  refine n0 _ _ (pcSeq (fun Q1 n1 r1 _ => sm_p1 hR.v1 hR.v2 hR.t1 hR.t2 ?_))
  intros
  rename_i w1 hw1
  have h1 := hR.grow hw1
  refine n1 _ _ (pcSeq (fun Q2 n2 r2 _ => sm_p2 h1.v1 h1.v2 h1.t1 h1.t2 ?_))
  intros
  rename_i w2 hw2
  have h2 := h1.grow hw2
  refine n2 _ _ (pcSeq (fun Q3 n3 r3 _ => sm_p3 h2.v1 h2.v2 ?_ ?_))
  · intros
    rename_i a1 a2 hl
    refine n3 _ _ (pcSeq (fun Q4 n4 r4 _ => sm_l0 h2 hl ?_ ?_))
    · intros
      rename_i wx hx hall
      refine n4 _ _ (sm_p11 ?_)
      intros
      refine sm_ret ⟨true, rfl, ⟨fun _ => Tab.ext_of (of_decide_eq_true a1) (of_decide_eq_true a2) (by rw [ht.cols.hlen, hs.cols.hlen]; exact hl) (fun i hi => hall i (by rw [← ht.cols.hlen]; exact hi)), fun _ => rfl⟩, hx.below⟩
    · intros
      rename_i wx hx hno
      exact r4 _ _ (sm_retF (hNo _ hx.below (fun q => hno (fun i hi => by rw [q]))))
  · intros
    rename_i hno
    exact r3 _ _ (sm_retF (hNo _ h2.below (fun q => hno ⟨decide_eq_true (by rw [q]), decide_eq_true (by rw [q]), by rw [← ht.cols.hlen, ← hs.cols.hlen, q]⟩)))
end Go.Proofs.Ytaiikhbfnfcalaa

namespace Go.Proofs.Ytaiikhbfnfcalaa
open Go.RowKit

theorem lsts_only15 {C : Nat → Prop} {w w' : World} {a : Option Addr} {l c : Nat} {xs : List Int} (h : Lsts w a l c xs) (k : Only C w w') (hC : ∀ ad, a = some ad → ¬ C ad.block) : Lsts w' a l c xs := ⟨h.hlen, h.hcap, h.hmax, fun hp => by
  obtain ⟨b, off, e, hc⟩ := h.cells hp
  exact ⟨b, off, e, fun i hi => k.cell (hc i hi) (show ¬ C b from hC ⟨b, off, none⟩ e)⟩, h.word⟩
/-- Block b holds no whole number. -/
def HeadI (w : World) (b : Nat) : Prop := ∃ cur t, w.heap[b]? = some (.cells cur t (0, 0)) ∧ ∀ (j : Nat) (x : Int), cur[j]? ≠ some (.int .i64 x)
theorem Lsts.headI {w w' : World} {a : Option Addr} {l c g : Nat} {xs : List Int} (h : Lsts w a l c xs) (hg : w.grownBy w' (some g)) (hd : HeadI w g) : Lsts w' a l c xs := ⟨h.hlen, h.hcap, h.hmax, fun hp => by
  obtain ⟨b, off, e, hc⟩ := h.cells hp
  refine ⟨b, off, e, fun i hi => ?_⟩
  have k := hc i hi
  have hne : b ≠ g := fun q => by
    subst q
    obtain ⟨cur, t, h1, h2⟩ := hd
    rw [cell_of_row _ _ _ _ _ _ h1] at k
    exact h2 _ _ k
  rw [← k]
  exact World.cell?_of_block (hg.block b (World.block_lt_of_cell? w _ k) (fun q => hne (Option.some.inj q))), h.word⟩
theorem TVar.headI {w : World} {g : Nat} {v : TV} (h : TVar w g v) : HeadI w g := ⟨_, _, h, fun j x => by
  unfold TV.cells
  rcases j with _ | _ | _ | j
  · simp
  · simp
  · simp
  · rw [Array.getElem?_eq_none (by simp)]
    simp⟩
/-- A row's entry: a list whose block Q tells. -/
def LE (Q : Nat → Prop) (w : World) (p : Option Addr) (n c : Nat) (zs : List Int) : Prop := Lsts w p n c zs ∧ ∀ ad, p = some ad → Q ad.block
theorem LE.below {Q : Nat → Prop} {w w' : World} {p : Option Addr} {n c : Nat} {zs : List Int} (h : LE Q w p n c zs) (hb : Below w.heap.size w w') : LE Q w' p n c zs := ⟨h.1.below hb, h.2⟩
theorem LE.headI {Q : Nat → Prop} {w w' : World} {p : Option Addr} {n c g : Nat} {zs : List Int} (h : LE Q w p n c zs) (hg : w.grownBy w' (some g)) (hd : HeadI w g) : LE Q w' p n c zs := ⟨h.1.headI hg hd, h.2⟩
/-- A row of rows of whole numbers in a block of slices alone, from block 'base' on. -/
def LHd (Q : Nat → Prop) (w : World) (base : Nat) (v : Value) (ns : List (List Int)) : Prop :=
  (v = .slice none 0 0 ∧ ns = []) ∨ ∃ b cap cur, v = .slice (some ⟨b, 0, none⟩) ns.length cap ∧ base ≤ b ∧ w.heap[b]? = some (.cells cur 22 (0, 0)) ∧ ns.length ≤ cap ∧ cap ≤ maxLen ∧ cur.size = cap ∧ (∀ j, j < cap → ∃ p n c, cur[j]? = some (.slice p n c)) ∧ ∀ i, i < ns.length → ∃ p n c, cur[i]? = some (.slice p n c) ∧ LE Q w p n c (ns.getD i [])
theorem LHd.nil {Q : Nat → Prop} (w : World) (base : Nat) : LHd Q w base (.slice none 0 0) [] := .inl ⟨rfl, rfl⟩
theorem headI_slices {w : World} {b cap : Nat} {cur : Array Value} {t : TypeId} (hg : w.heap[b]? = some (.cells cur t (0, 0))) (hs : cur.size = cap) (hc : ∀ j, j < cap → ∃ p n c, cur[j]? = some (.slice p n c)) : HeadI w b := by
  refine ⟨cur, t, hg, fun j x => ?_⟩
  by_cases hj : j < cap
  · obtain ⟨p, n, c, e⟩ := hc j hj
    rw [e]
    simp
  · rw [Array.getElem?_eq_none (by omega)]
    simp
theorem LHd.own {Q : Nat → Prop} {w : World} {base : Nat} {v : Value} {ns : List (List Int)} (h : LHd Q w base v ns) : ∀ b, v.ownBlock = some b → HeadI w b ∧ base ≤ b ∧ b < w.heap.size := fun q e => by
  rcases h with ⟨rfl, rfl⟩ | ⟨b, cap, cur, rfl, hb, hg, _, _, hs, hc, _⟩
  · simp [Value.ownBlock] at e
  · simp [Value.ownBlock] at e
    subst e
    exact ⟨headI_slices hg hs hc, hb, (Array.getElem?_eq_some_iff.1 hg).1⟩
theorem LHd.headI {Q : Nat → Prop} {w w' : World} {base g : Nat} {v : Value} {ns : List (List Int)} (h : LHd Q w base v ns) (hg : w.grownBy w' (some g)) (hd : HeadI w g) (hne : ∀ b, v.ownBlock = some b → b ≠ g) : LHd Q w' base v ns := by
  rcases h with h | ⟨b, cap, cur, rfl, hb, hb2, h1, h2, hs, hc, hi⟩
  · exact .inl h
  · refine .inr ⟨b, cap, cur, rfl, hb, (hg.block b (Array.getElem?_eq_some_iff.1 hb2).1 (fun e => hne b rfl (by simpa using e))).trans hb2, h1, h2, hs, hc, fun i hi' => ?_⟩
    obtain ⟨p, n, c, e, hn⟩ := hi i hi'
    exact ⟨p, n, c, e, hn.headI hg hd⟩
theorem LHd.below {Q : Nat → Prop} {w w' : World} {base : Nat} {v : Value} {ns : List (List Int)} (h : LHd Q w base v ns) (hb : Below w.heap.size w w') : LHd Q w' base v ns := by
  rcases h with h | ⟨b, cap, cur, rfl, h0, hb2, h1, h2, hs, hc, hi⟩
  · exact .inl h
  · refine .inr ⟨b, cap, cur, rfl, h0, (hb.block b (Array.getElem?_eq_some_iff.1 hb2).1).trans hb2, h1, h2, hs, hc, fun i hi' => ?_⟩
    obtain ⟨p, n, c, e, hn⟩ := hi i hi'
    exact ⟨p, n, c, e, hn.below hb⟩
theorem LHd.row {Q : Nat → Prop} {w : World} {base : Nat} {v : Value} {ns : List (List Int)} (h : LHd Q w base v ns) : ∃ a c, v = .slice a ns.length c ∧ IRows w a ns.length c ns ∧ (a = none → c = 0) := by
  rcases h with ⟨rfl, rfl⟩ | ⟨b, cap, cur, rfl, h0, hb2, h1, h2, hs, hc, hi⟩
  · exact ⟨none, 0, rfl, IRows.nil _, fun _ => rfl⟩
  · refine ⟨_, cap, rfl, ⟨rfl, h1, h2, fun _ => ⟨b, 0, rfl, fun i hi' => ?_⟩⟩, fun e => by cases e⟩
    obtain ⟨p, n, c, e, hn⟩ := hi i hi'
    exact ⟨p, n, c, by rw [Nat.zero_add, cell_of_row w b i cur _ _ hb2]; exact e, hn.1⟩
theorem lh_snoc {Ls : List (List Int)} {bs : List Int} {i : Nat} (h : i < Ls.length) : (Ls ++ [bs]).getD i [] = Ls.getD i [] := by unfold List.getD; rw [List.getElem?_append_left h]
theorem lh_last {Ls : List (List Int)} {bs : List Int} : (Ls ++ [bs]).getD Ls.length [] = bs := by simp [List.getD]
theorem lh_zero (k j : Nat) (hj : j < k) : ∃ p n c, (Builtin.zeroCells (Value.slice none 0 0).cells k)[j]? = some (.slice p n c) := by
  have hz : (Builtin.zeroCells (Value.slice none 0 0).cells k).size = k := by
    rw [size_zeroCells]
    simp [Value.cells]
  have : (Builtin.zeroCells (Value.slice none 0 0).cells k)[j]? = some (.slice none 0 0) := by
    rw [Array.getElem?_eq_getElem (by omega)]
    simp [Builtin.zeroCells, Value.cells]
    rw [Nat.mod_one]
    rfl
  exact ⟨_, _, _, this⟩
theorem Try.infoLH : (Try.prog.info? 22).map (fun i => (i.zero, i.size, i.bytes)) = some (some (.slice none 0 0), 1, 24) := by kernel_rfl
/-- One number more is appended. -/
theorem run_appLH {Q : Nat → Prop} (w : World) (t ty : TypeId) (ht : Try.prog.underlying t = some (.slice 22)) {base : Nat} {v : Value} {Ls : List (List Int)} (h : LHd Q w base v Ls) (hbase : base ≤ w.heap.size) {g1 : Nat} {p : Option Addr} {n c : Nat} {zs : List Int} (hu : w.cell? ⟨g1, 0, none⟩ = some (.slice p n c)) (hz : LE Q w p n c zs) (hl : Ls.length ≤ 2932031007402) :
    ∃ v' w', (Builtin.append_ #[t, t] ty #[v, .slice (some ⟨g1, 0, none⟩) 1 1]).run Try.prog w = .ok v' w' ∧ LHd Q w' base v' (Ls ++ [zs]) ∧ w.grownBy w' v.ownBlock ∧ (v'.ownBlock = v.ownBlock ∨ v'.ownBlock = some w.heap.size) := by
  obtain ⟨i0, hi, hz0, hz1, hz2⟩ := info_parts Try.infoLH
  have hnews : ∀ j q, [Value.slice p n c][j]? = some q → w.cell? ((⟨g1, 0, none⟩ : Addr).add j) = some q := fun j q hj => by
    match j, hj with
    | 0, hj =>
      simp at hj
      subst hj
      rw [Addr.add_lit]
      exact hu
  have hone : ∀ q ∈ [Value.slice p n c], q.oneCell' = true := fun q hq => by
    simp at hq
    subst hq
    rfl
  -- the block that is new
  have fresh : ∀ (olds : List Value) (G : Nat), olds.length = Ls.length → Ls.length + 1 ≤ G → G ≤ maxLen → (∀ i, i < Ls.length → ∃ p n c, olds[i]? = some (.slice p n c) ∧ LE Q w p n c (Ls.getD i [])) → ∀ row : Option Nat,
      LHd Q (w.drew.alloc (.cells (olds.toArray ++ [Value.slice p n c].toArray ++ Builtin.zeroCells (Value.slice none 0 0).cells (G - (Ls.length + 1))) 22)) base (.slice (some ⟨w.heap.size, 0, none⟩) (Ls.length + 1) G) (Ls ++ [zs]) ∧ w.grownBy (w.drew.alloc (.cells (olds.toArray ++ [Value.slice p n c].toArray ++ Builtin.zeroCells (Value.slice none 0 0).cells (G - (Ls.length + 1))) 22)) row := by
    intro olds G ho hG hGm hold row
    have hB : Below w.heap.size w (w.drew.alloc (.cells (olds.toArray ++ [Value.slice p n c].toArray ++ Builtin.zeroCells (Value.slice none 0 0).cells (G - (Ls.length + 1))) 22)) := (below_drewN (Below.refl w.heap.size w) 1).alloc (Nat.le_refl _) _
    have hat : ∀ i, i < Ls.length → (olds.toArray ++ [Value.slice p n c].toArray ++ Builtin.zeroCells (Value.slice none 0 0).cells (G - (Ls.length + 1)))[i]? = olds[i]? := fun i q => by
      rw [Array.getElem?_append_left (by simp; omega), Array.getElem?_append_left (by simp; omega)]
      simp
    have hla : (olds.toArray ++ [Value.slice p n c].toArray ++ Builtin.zeroCells (Value.slice none 0 0).cells (G - (Ls.length + 1)))[Ls.length]? = some (.slice p n c) := by
      rw [Array.getElem?_append_left (by simp; omega), Array.getElem?_append_right (by simp; omega)]
      simp [ho]
    have hsz : (olds.toArray ++ [Value.slice p n c].toArray ++ Builtin.zeroCells (Value.slice none 0 0).cells (G - (Ls.length + 1))).size = G := by
      rw [Array.size_append, Array.size_append, size_zeroCells]
      simp [Value.cells]
      omega
    refine ⟨.inr ⟨w.heap.size, G, _, by simp, hbase, heap_alloc_new w.drew _, by simp; omega, hGm, hsz, fun j hj => ?_, fun i hi' => ?_⟩, grown_of_below hB row⟩
    · by_cases q : j < Ls.length
      · obtain ⟨p', n', c', e, _⟩ := hold j q
        exact ⟨p', n', c', by rw [hat j q]; exact e⟩
      · by_cases q2 : j = Ls.length
        · subst q2
          exact ⟨p, n, c, hla⟩
        · rw [Array.getElem?_append_right (by simp; omega)]
          exact lh_zero _ _ (by simp; omega)
    · by_cases q : i < Ls.length
      · obtain ⟨p', n', c', e, hb'⟩ := hold i q
        exact ⟨p', n', c', by rw [hat i q]; exact e, by rw [lh_snoc q]; exact hb'.below hB⟩
      · obtain rfl : i = Ls.length := by simp at hi'; omega
        exact ⟨p, n, c, hla, by rw [lh_last]; exact hz.below hB⟩
  rcases h with ⟨rfl, rfl⟩ | ⟨b, cap, cur, rfl, h0, hg, hlc, hcm, hsz, hall, hc⟩
  · have hr := _root_.Go.run_append_nil (P := Try.prog) w t ty 22 i0 (.slice none 0 0) ht hi hz0 ⟨g1, 0, none⟩ 1 1 [.slice p n c] (by rw [hz1]; rfl) hnews (by decide) (by decide) (by rw [hz2]; decide)
    have hf := fresh [] (grownCap w 1 0 22) rfl (grownCap_ge w 1 0 _) (grownCap_le_maxLen w 1 0 _ (by unfold maxLen; omega)) (fun i hi => by simp at hi) none
    simp only [List.length_nil, Nat.zero_add, List.nil_append] at hf ⊢
    refine ⟨_, _, hr, ?_, ?_, .inr rfl⟩
    · simpa using hf.1
    · simpa [Value.ownBlock] using hf.2
  · by_cases hroom : Ls.length + 1 ≤ cap
    · have hr := _root_.Go.run_append_room_cells (P := Try.prog) w t ty 22 i0 ht hi b 0 Ls.length cap ⟨g1, 0, none⟩ 1 1 [.slice p n c] (by rw [hz1]; rfl) hnews hone hroom (fun j hj => by
        rw [cell_of_row w b _ cur _ _ hg, hz1]
        simp at hj
        subst hj
        rw [Array.getElem?_eq_getElem (by omega)]
        rfl) (fun j hj => frozen_of_row w b _ cur _ hg)
      rw [hz1, Nat.mul_one, Nat.zero_add] at hr
      have hgr := grown_set w b Ls.length (.slice p n c)
      have hhd := headI_slices hg hsz hall
      refine ⟨_, _, hr, .inr ⟨b, cap, _, by simp, h0, heap_setCell_same w b Ls.length cur _ (.slice p n c) hg, by simpa using hroom, hcm, by simpa using hsz, fun j hj => ?_, fun i hi' => ?_⟩, hgr, .inl rfl⟩
      · by_cases q : Ls.length = j
        · subst q
          exact ⟨p, n, c, by rw [Array.getElem?_setIfInBounds, if_pos rfl, if_pos (by omega)]⟩
        · rw [Array.getElem?_setIfInBounds, if_neg q]
          exact hall j hj
      · by_cases q : i < Ls.length
        · obtain ⟨p', n', c', e, hb'⟩ := hc i q
          refine ⟨p', n', c', ?_, by rw [lh_snoc q]; exact hb'.headI hgr hhd⟩
          rw [Array.getElem?_setIfInBounds, if_neg (by omega)]
          exact e
        · obtain rfl : i = Ls.length := by simp at hi'; omega
          refine ⟨p, n, c, ?_, by rw [lh_last]; exact hz.headI hgr hhd⟩
          rw [Array.getElem?_setIfInBounds, if_pos rfl, if_pos (by omega)]
    · obtain ⟨olds, hol⟩ : ∃ olds, olds = cur.toList.take Ls.length := ⟨_, rfl⟩
      have h1 : olds.length = Ls.length := by rw [hol]; simp; omega
      have h2 : ∀ j, j < Ls.length → olds[j]? = cur[j]? := fun j hj => by
        rw [hol, List.getElem?_take, if_pos hj]
        simp
      have hr := _root_.Go.run_append_grow (P := Try.prog) w t ty 22 i0 (.slice none 0 0) ht hi hz0 ⟨b, 0, none⟩ Ls.length cap olds (by rw [hz1, h1, Nat.mul_one]) (fun j q hj => by
        have hjl : j < Ls.length := by rw [← h1]; exact (List.getElem?_eq_some_iff.1 hj).1
        rw [Addr.add_lit, Nat.zero_add, cell_of_row w b j cur _ _ hg, ← h2 j hjl]
        exact hj) ⟨g1, 0, none⟩ 1 1 [.slice p n c] (by rw [hz1]; rfl) hnews (by omega) (by omega) (growslice_fits (by omega) (by rw [hz2]; omega))
      have hf := fresh olds (grownCap w (Ls.length + 1) cap 22) h1 (grownCap_ge w _ cap _) (grownCap_le_maxLen w _ cap _ (by unfold maxLen; omega)) (fun i hi => by
        obtain ⟨p', n', c', e, hb'⟩ := hc i hi
        exact ⟨p', n', c', by rw [h2 i hi]; exact e, hb'⟩) (some b)
      exact ⟨_, _, hr, hf.1, hf.2, .inr rfl⟩
theorem LHd.low {Q : Nat → Prop} {w w' : World} {base : Nat} {v : Value} {ns : List (List Int)} (h : LHd Q w base v ns) (hg : w.grownBy w' v.ownBlock) (hb : base ≤ w.heap.size) : Below base w w' :=
  ⟨hg.os, hg.tape, hg.output, hg.size, fun k hk => hg.block k (Nat.lt_of_lt_of_le hk hb) (fun e => by have := (h.own k e.symm).2.1; omega)⟩
theorem wpList_appLH {Q : Nat → Prop} (w : World) {ops : Array Oper} {rest : List Oper} {o : Oper} {a : Act} {Qe : Exit → Act → World → Prop} (hgd : o.guard = none) (s x : Operand) (t : TypeId)
    (ho : o.op = .call { callee := .builtin .append, args := #[s, x], argTypes := #[t, t] }) (ht : Try.prog.underlying t = some (.slice 22))
    (base : Nat) (v : Value) (ns : List (List Int)) (hs : a.eval s = v) (hown : LHd Q w base v ns) (g1 : Nat) (p : Option Addr) (n c : Nat) (zs : List Int) (hx : a.eval x = .slice (some ⟨g1, 0, none⟩) 1 1) (hc : w.cell? ⟨g1, 0, none⟩ = some (.slice p n c)) (hz : LE Q w p n c zs)
    (hlen : ns.length < 1000000) (hbase : base ≤ w.heap.size)
    (h : ∀ v' w', LHd Q w' base v' (ns ++ [zs]) → w.grownBy w' v.ownBlock → wpList Try.prog ops Qe rest (a.put o.dst v') w') : wpList Try.prog ops Qe (o :: rest) a w := by
  obtain ⟨v', w', hr, h1, h2, -⟩ := run_appLH w t o.type ht hown hbase hc hz (by omega)
  exact Lib.wpList_append_run w hgd s x t t ho v _ hs hx v' w' hr (h v' w' h1 h2)
theorem wpList_appLHw {Q : Nat → Prop} (w : World) {ops : Array Oper} {rest : List Oper} {o : Oper} {a : Act} {Qe : Exit → Act → World → Prop} (hgd : o.guard = none) (s x : Operand) (t : TypeId)
    (ho : o.op = .call { callee := .builtin .append, args := #[s, x], argTypes := #[t, t] }) (ht : Try.prog.underlying t = some (.slice 22))
    (base : Nat) (v : Value) (ns : List (List Int)) (hs : a.eval s = v) (hown : LHd Q w base v ns) (g1 : Nat) (p : Option Addr) (n c : Nat) (zs : List Int) (hx : a.eval x = .slice (some ⟨g1, 0, none⟩) 1 1) (hc : w.cell? ⟨g1, 0, none⟩ = some (.slice p n c)) (hz : LE Q w p n c zs)
    (hlen : ns.length ≤ 2932031007402) (hbase : base ≤ w.heap.size)
    (h : ∀ v' w', LHd Q w' base v' (ns ++ [zs]) → w.grownBy w' v.ownBlock → wpList Try.prog ops Qe rest (a.put o.dst v') w') : wpList Try.prog ops Qe (o :: rest) a w := by
  obtain ⟨v', w', hr, h1, h2, -⟩ := run_appLH w t o.type ht hown hbase hc hz hlen
  exact Lib.wpList_append_run w hgd s x t t ho v _ hs hx v' w' hr (h v' w' h1 h2)
theorem LHd.only {Q Q' C : Nat → Prop} {w w' : World} {base : Nat} {v : Value} {ns : List (List Int)} (h : LHd Q w base v ns) (k : Only C w w') (hv : ∀ b, v.ownBlock = some b → ¬ C b) (hQ : ∀ b, Q b → ¬ C b ∧ Q' b) : LHd Q' w' base v ns := by
  rcases h with h | ⟨b, cap, cur, rfl, h0, hb2, h1, h2, hs, hc, hi⟩
  · exact .inl h
  · refine .inr ⟨b, cap, cur, rfl, h0, (k.block b (Array.getElem?_eq_some_iff.1 hb2).1 (hv b rfl)).trans hb2, h1, h2, hs, hc, fun i hi' => ?_⟩
    obtain ⟨p, n, c, e, hn⟩ := hi i hi'
    exact ⟨p, n, c, e, lsts_only15 hn.1 k (fun ad e => (hQ _ (hn.2 ad e)).1), fun ad e => (hQ _ (hn.2 ad e)).2⟩
/-- A row that was just made, of no numbers. -/
theorem IOwn.empty (w : World) : IOwn (w.alloc (.cells #[] 3)) w.heap.size (.slice (some ⟨w.heap.size, 0, none⟩) 0 0) [] := ⟨rfl, .inr ⟨w.heap.size, 0, #[], rfl, Nat.le_refl _, heap_alloc_new _ _, Nat.le_refl _, Nat.zero_le _, rfl, rfl⟩⟩
/-- A whole list is appended. -/
theorem run_appIs (w : World) (ty : TypeId) {base : Nat} {v : Value} {xs : List Int} (h : IOwn w base v xs) {a : Option Addr} {l c : Nat} {ys : List Int} (hL : Lsts w a l c ys) (hn : xs.length + l < 1000000) (hbase : base ≤ w.heap.size) :
    ∃ v' w', (Builtin.append_ #[22, 22] ty #[v, .slice a l c]).run Try.prog w = .ok v' w' ∧ IOwn w' base v' (xs ++ ys) ∧ w.grownBy w' v.ownBlock := by
  obtain ⟨i0, hi, hz0, hz1, hz2⟩ := info_parts Try.infoI
  have hlen := hL.hlen
  cases a with
  | none =>
    have e : l = 0 := by
      rcases Nat.eq_zero_or_pos l with e | e
      · exact e
      · obtain ⟨b, off, q, _⟩ := hL.cells e
        cases q
    subst e
    have ey : ys = [] := List.eq_nil_of_length_eq_zero hlen
    subst ey
    have hrun := run_append_nil (P := Try.prog) (w := w) base 22 ty 3 i0 1 Try.underlying22 hi _ _ _ h c
    exact ⟨v, w, hrun, by rw [List.append_nil]; exact h, ⟨rfl, rfl, rfl, Nat.le_refl _, fun _ _ _ => rfl⟩⟩
  | some ad =>
    obtain ⟨v', w', hr, h2, h3, _⟩ := run_append_own (P := Try.prog) w base 22 ty 3 i0 (.int .i64 0) 1 8 Try.underlying22 hi hz0 hz1 hz2 rfl (by decide) v xs.length (xs.map (Value.int .i64)) h ad l c (ys.map (Value.int .i64)) (by simp [hlen]) (fun j u hj => by
      have hjl : j < l := by have := (List.getElem?_eq_some_iff.1 hj).1; simp at this; omega
      obtain ⟨b, off, q, hc⟩ := hL.cells (by omega)
      cases q
      rw [Addr.add_lit, hc j hjl, ← hj, List.getElem?_map, List.getElem?_eq_getElem (by omega)]
      simp [List.getD, List.getElem?_eq_getElem (show j < ys.length by omega)]) (fun u hu => by obtain ⟨z, -, rfl⟩ := List.mem_map.1 hu; rfl) (by unfold maxLen; omega) (by omega) hbase
    refine ⟨v', w', hr, ?_, h3⟩
    unfold IOwn
    rw [List.length_append, List.map_append, hlen]
    exact h2
theorem wpList_appIs (w : World) {ops : Array Oper} {rest : List Oper} {o : Oper} {a : Act} {Q : Exit → Act → World → Prop} (hgd : o.guard = none) (s x : Operand)
    (ho : o.op = .call { callee := .builtin .append, args := #[s, x], argTypes := #[22, 22] })
    (base : Nat) (v : Value) (xs : List Int) (hs : a.eval s = v) (hown : IOwn w base v xs) (p : Option Addr) (l c : Nat) (ys : List Int) (hx : a.eval x = .slice p l c) (hL : Lsts w p l c ys) (hn : xs.length + l < 1000000) (hbase : base ≤ w.heap.size)
    (h : ∀ v' w', IOwn w' base v' (xs ++ ys) → w.grownBy w' v.ownBlock → wpList Try.prog ops Q rest (a.put o.dst v') w') : wpList Try.prog ops Q (o :: rest) a w := by
  obtain ⟨v', w', hr, h2, h3⟩ := run_appIs w o.type hown hL hn hbase
  exact Lib.wpList_append_run w hgd s x 22 22 ho v _ hs hx v' w' hr (h v' w' h2 h3)
theorem step_appIs (w : World) {ops : Array Oper} {o : Oper} {a : Act} {K : Act → World → Prop} {Q : Exit → Act → World → Prop} {E : Prop} (hgd : o.guard = none) (s x : Operand)
    (ho : o.op = .call { callee := .builtin .append, args := #[s, x], argTypes := #[22, 22] })
    (base : Nat) (v : Value) (xs : List Int) (hs : a.eval s = v) (hown : IOwn w base v xs) (p : Option Addr) (l c : Nat) (ys : List Int) (hx : a.eval x = .slice p l c) (hL : Lsts w p l c ys) (hn : xs.length + l < 1000000) (hbase : base ≤ w.heap.size)
    (h : ∀ v' w', IOwn w' base v' (xs ++ ys) → w.grownBy w' v.ownBlock → K (a.put o.dst v') w') : if Region.wanted o (yielded ops a.tmps) = true then Oper.wp Try.prog o a w K Q else E := by
  rw [if_pos (by simp [Region.wanted, hgd])]
  obtain ⟨v', w', hr, h2, h3⟩ := run_appIs w o.type hown hL hn hbase
  unfold Oper.wp
  simp [execOp, ho, resolve, invoke, builtin, hs, hx, hr, Result.andThen]
  exact h v' w' h2 h3
theorem step_appLH {Q : Nat → Prop} (w : World) {ops : Array Oper} {o : Oper} {a : Act} {K : Act → World → Prop} {Qe : Exit → Act → World → Prop} {E : Prop} (hgd : o.guard = none) (s x : Operand) (t : TypeId)
    (ho : o.op = .call { callee := .builtin .append, args := #[s, x], argTypes := #[t, t] }) (ht : Try.prog.underlying t = some (.slice 22))
    (base : Nat) (v : Value) (ns : List (List Int)) (hs : a.eval s = v) (hown : LHd Q w base v ns) (g1 : Nat) (p : Option Addr) (n c : Nat) (zs : List Int) (hx : a.eval x = .slice (some ⟨g1, 0, none⟩) 1 1) (hc : w.cell? ⟨g1, 0, none⟩ = some (.slice p n c)) (hz : LE Q w p n c zs)
    (hlen : ns.length < 1000000) (hbase : base ≤ w.heap.size)
    (h : ∀ v' w', LHd Q w' base v' (ns ++ [zs]) → w.grownBy w' v.ownBlock → K (a.put o.dst v') w') : if Region.wanted o (yielded ops a.tmps) = true then Oper.wp Try.prog o a w K Qe else E := by
  rw [if_pos (by simp [Region.wanted, hgd])]
  obtain ⟨v', w', hr, h1, h2, -⟩ := run_appLH w t o.type ht hown hbase hc hz (by omega)
  unfold Oper.wp
  simp [execOp, ho, resolve, invoke, builtin, hs, hx, hr, Result.andThen]
  exact h v' w' h1 h2
/-- What a row of the call's own turns. -/
theorem IOwn.low {w w' : World} {base : Nat} {v : Value} {xs : List Int} (h : IOwn w base v xs) (hg : w.grownBy w' v.ownBlock) (hb : base ≤ w.heap.size) : Below base w w' :=
  ⟨hg.os, hg.tape, hg.output, hg.size, fun k hk => hg.block k (Nat.lt_of_lt_of_le hk hb) (fun e => by have := (World.ownsRow.lt h k e.symm).1; omega)⟩
end Go.Proofs.Ytaiikhbfnfcalaa

/-
  What math/bits.Add64 and Sub64 answer here, the sums of limbs by their places, and blocks of words that are written in place.
-/
import Derived.Test.YtaipkganijofjabOwn
import Derived.Laws.Externs
import Derived.Laws.CopyOwn
import Derived.Deep.RegionHeld3
namespace Go.Proofs.Ytaipkganijofjab
open Go.RowKit

def lo (x : Int) : Int := x % 18446744073709551616
def hi (x : Int) : Int := x / 18446744073709551616
def bor (x y b : Int) : Int := if x < y + b then 1 else 0

theorem lo_bd (x : Int) : 0 ≤ lo x ∧ lo x < 18446744073709551616 := by unfold lo; omega
theorem lo_hi (x : Int) : lo x + 18446744073709551616 * hi x = x := by unfold lo hi; omega
theorem hi_carry {x y c : Int} (hx : 0 ≤ x ∧ x < 18446744073709551616) (hy : 0 ≤ y ∧ y < 18446744073709551616) (hc : 0 ≤ c ∧ c ≤ 1) : 0 ≤ hi (x + y + c) ∧ hi (x + y + c) ≤ 1 := by unfold hi; omega
theorem bor_bd (x y b : Int) : 0 ≤ bor x y b ∧ bor x y b ≤ 1 := by unfold bor; split <;> omega
theorem lo_bor {x y b : Int} (hx : 0 ≤ x ∧ x < 18446744073709551616) (hy : 0 ≤ y ∧ y < 18446744073709551616) (hb : 0 ≤ b ∧ b ≤ 1) : lo (x - y - b) - 18446744073709551616 * bor x y b = x - y - b := by
  unfold lo bor; split <;> omega

/-- The sum of so many limbs, each by its place. -/
def vs (B : Int) (f : Nat → Int) : Nat → Int
  | 0 => 0
  | n + 1 => vs B f n + B ^ n * f n

theorem vs_congr {B : Int} {f g : Nat → Int} {n : Nat} (h : ∀ i, i < n → f i = g i) : vs B f n = vs B g n := by
  induction n with
  | zero => rfl
  | succ n ih => simp only [vs]; rw [ih (fun i hi => h i (by omega)), h n (by omega)]

theorem val_take_succ' (B : Int) (zs : List Int) (k : Nat) : val B (zs.take (k + 1)) = val B (zs.take k) + B ^ k * zs.getD k 0 := by
  by_cases h : k < zs.length
  · exact val_take_succ B zs k h
  · rw [List.take_of_length_le (by omega), List.take_of_length_le (by omega)]
    simp [List.getD, List.getElem?_eq_none (Nat.le_of_not_lt h)]

theorem vs_val (B : Int) (zs : List Int) (n : Nat) : vs B (fun i => zs.getD i 0) n = val B (zs.take n) := by
  induction n with
  | zero => simp [vs, val]
  | succ n ih => rw [val_take_succ', ← ih]; rfl

theorem vs_all (B : Int) (zs : List Int) {n : Nat} (h : zs.length ≤ n) : vs B (fun i => zs.getD i 0) n = val B zs := by
  rw [vs_val, List.take_of_length_le h]

theorem vs_nonneg {B : Int} (hB : 0 < B) {f : Nat → Int} {n : Nat} (h : ∀ i, i < n → 0 ≤ f i) : 0 ≤ vs B f n := by
  induction n with
  | zero => exact Int.le_refl _
  | succ n ih =>
    have h1 := ih (fun i hi => h i (by omega))
    have h2 : 0 ≤ B ^ n * f n := Int.mul_nonneg (Int.le_of_lt (pow_pos' hB n)) (h n (by omega))
    simp only [vs]; omega

theorem vs_lt {B : Int} (hB : 0 < B) {f : Nat → Int} {n : Nat} (h : ∀ i, i < n → 0 ≤ f i ∧ f i < B) : vs B f n < B ^ n := by
  induction n with
  | zero => simp [vs]
  | succ n ih =>
    have h1 := ih (fun i hi => h i (by omega))
    have h2 : B ^ n * (f n + 1) ≤ B ^ n * B := Int.mul_le_mul_of_nonneg_left (by have := h n (by omega); omega) (Int.le_of_lt (pow_pos' hB n))
    simp only [vs, Int.pow_succ]
    rw [Int.mul_add] at h2
    omega

theorem vs_add (B : Int) (f : Nat → Int) (m n : Nat) : vs B f (m + n) = vs B f m + B ^ m * vs B (fun i => f (m + i)) n := by
  induction n with
  | zero => simp [vs]
  | succ n ih =>
    rw [show m + (n + 1) = (m + n) + 1 by omega]
    simp only [vs]
    rw [ih, Int.pow_add, Int.mul_add, Int.mul_assoc]
    omega

theorem vs_zero (B : Int) {f : Nat → Int} {n : Nat} (h : ∀ i, i < n → f i = 0) : vs B f n = 0 := by
  induction n with
  | zero => rfl
  | succ n ih => simp only [vs]; rw [ih (fun i hi => h i (by omega)), h n (by omega)]; simp

theorem val_cut (B : Int) (zs : List Int) (k : Nat) : val B zs = val B (zs.take k) + B ^ k * val B (zs.drop k) := by
  by_cases h : k ≤ zs.length
  · exact val_split B zs k h
  · rw [List.take_of_length_le (by omega), List.drop_eq_nil_of_le (by omega)]; simp [val]

theorem val_trunc' {D : List Int} (hD : Digs 18446744073709551616 D) {n : Nat} (h : val 18446744073709551616 D < 18446744073709551616 ^ n) : vs 18446744073709551616 (fun i => D.getD i 0) n = val 18446744073709551616 D := by
  have hB : (0 : Int) < 18446744073709551616 := by decide
  rw [vs_val]
  have e := val_cut 18446744073709551616 D n
  have h1 := val_nonneg hB (hD.take n)
  have h2 := val_nonneg hB (hD.drop n)
  have h3 := pow_pos' hB n
  by_cases h0 : val 18446744073709551616 (D.drop n) = 0
  · rw [h0] at e; omega
  · have h4 : 18446744073709551616 ^ n * 1 ≤ 18446744073709551616 ^ n * val 18446744073709551616 (D.drop n) := Int.mul_le_mul_of_nonneg_left (by omega) (by omega)
    omega

/-- Block g holds these words at its head, and may be written. -/
def Blk (w : World) (g : Nat) (L : List Int) : Prop := ∃ cur : Array Value, w.heap[g]? = some (.cells cur 29 (0, 0)) ∧ cur.toList.take L.length = L.map (Value.int .u64)

theorem Blk.cell {w : World} {g : Nat} {L : List Int} (h : Blk w g L) {j : Nat} (hj : j < L.length) : w.cell? ⟨g, j, none⟩ = some (.int .u64 (L.getD j 0)) := by
  obtain ⟨cur, h1, h2⟩ := h
  rw [cell_of_row w g j _ _ _ h1]
  have h3 : (cur.toList.take L.length)[j]? = (L.map (Value.int .u64))[j]? := by rw [h2]
  rw [List.getElem?_take, if_pos hj] at h3
  rw [← Array.getElem?_toList, h3]
  simp [List.getD, hj]
theorem Blk.frozen {w : World} {g : Nat} {L : List Int} (h : Blk w g L) (j : Nat) : w.frozen? ⟨g, j, none⟩ = false := by
  obtain ⟨cur, h1, _⟩ := h
  exact frozen_of_row w g j _ _ h1
theorem Blk.lt {w : World} {g : Nat} {L : List Int} (h : Blk w g L) : g < w.heap.size := by
  obtain ⟨cur, h1, _⟩ := h
  exact (Array.getElem?_eq_some_iff.1 h1).1
theorem Blk.set {w : World} {g : Nat} {L : List Int} (h : Blk w g L) (j : Nat) (x : Int) : Blk (w.setCell ⟨g, j, none⟩ (.int .u64 x)) g (L.set j x) := by
  obtain ⟨cur, h1, h2⟩ := h
  refine ⟨cur.setIfInBounds j (.int .u64 x), heap_setCell_same w g j _ _ (.int .u64 x) h1, ?_⟩
  rw [Array.toList_setIfInBounds, List.length_set, List.take_set, h2, List.map_set]
theorem Blk.grown {w w' : World} {g : Nat} {L : List Int} {row : Option Nat} (h : Blk w g L) (hg : w.grownBy w' row) (hne : row ≠ some g) : Blk w' g L := by
  have hlt := h.lt
  obtain ⟨cur, h1, h2⟩ := h
  exact ⟨cur, by rw [hg.block g hlt (by intro e; exact hne e.symm)]; exact h1, h2⟩
theorem Blk.below {w w' : World} {g : Nat} {L : List Int} {B : Nat} (h : Blk w g L) (hb : Below B w w') (hlt : g < B) : Blk w' g L := by
  obtain ⟨cur, h1, h2⟩ := h
  exact ⟨cur, by rw [hb.block g hlt]; exact h1, h2⟩
theorem grown_set (w : World) (g j : Nat) (x : Value) : w.grownBy (w.setCell ⟨g, j, none⟩ x) (some g) :=
  ⟨rfl, rfl, rfl, by simp, fun k _ hk => heap_setCell_other w ⟨g, j, none⟩ k x (fun e => hk (by simp [e]))⟩
theorem grown_trans {a b c : World} {row : Option Nat} (h : a.grownBy b row) (k : b.grownBy c row) : a.grownBy c row :=
  ⟨k.os.trans h.os, k.tape.trans h.tape, k.output.trans h.output, Nat.le_trans h.size k.size, fun i hi hne => (k.block i (Nat.lt_of_lt_of_le hi h.size) hne).trans (h.block i hi hne)⟩
theorem grown_drewN (w : World) (n : Nat) (row : Option Nat) : w.grownBy (w.drewN n) row := ⟨rfl, rfl, rfl, Nat.le_refl _, fun _ _ _ => rfl⟩
theorem grown_of_below {w w' : World} (h : Below w.heap.size w w') (row : Option Nat) : w.grownBy w' row := ⟨h.os, h.tape, h.output, h.size, fun k hk _ => h.block k hk⟩
theorem below_of_grown {w w' : World} {g B : Nat} (h : w.grownBy w' (some g)) (hB : B ≤ g) (hs : B ≤ w.heap.size) : Below B w w' :=
  ⟨h.os, h.tape, h.output, h.size, fun k hk => h.block k (by omega) (by simp; omega)⟩

/-- The block that a slice lies in, if it has an element, is another one. -/
def Apart (a : Option Addr) (g : Nat) : Prop := ∀ x, a = some x → x.block ≠ g
theorem Nums.grown {w w' : World} {a : Option Addr} {len cap g : Nat} {zs : List Int} (h : Nums w a len cap zs) (hg : w.grownBy w' (some g)) (hne : 0 < len → Apart a g) : Nums w' a len cap zs := by
  refine ⟨h.hlen, h.hcap, h.hmax, fun hp => ?_, h.word⟩
  obtain ⟨b, off, ha, hc⟩ := h.cells hp
  refine ⟨b, off, ha, fun i hi => ?_⟩
  exact hg.cell (hc i hi) (by have := hne hp _ ha; simp; omega)
end Go.Proofs.Ytaipkganijofjab

/-
  What math/bits.Add64 and Sub64 answer here, the sums of limbs by their places, and blocks of words that are written in place.
  What math/bits.Mul64 answers here: the two halves of the product of any two words.
  Contracts of addTo and takeFrom: sums and differences of limbs, in their place.
  Contracts of plus, fitted and nat.Add: the sum of two numbers, in new memory.
  Contracts of fitted and nat.Add.
  What the laws over two or three numbers share: few at their arguments, and what is told of [1].
-/
import Derived.Test.YtchmlfjjgehbkaaGreatNatA
import Derived.Laws.Externs
import Derived.Laws.CopyOwn
import Derived.Deep.RegionHeld3
import Derived.Shelf.Bits.Mul64
namespace Go.Proofs.YtchmlfjjgehbkaaGreat
open Go.RowKit

def lo (x : Int) : Int := x % 18446744073709551616
def hi (x : Int) : Int := x / 18446744073709551616
def bor (x y b : Int) : Int := if x < y + b then 1 else 0

theorem lo_bd (x : Int) : 0 ≤ lo x ∧ lo x < 18446744073709551616 := by unfold lo; omega
theorem lo_hi (x : Int) : lo x + 18446744073709551616 * hi x = x := by unfold lo hi; omega
theorem hi_carry {x y c : Int} (hx : 0 ≤ x ∧ x < 18446744073709551616) (hy : 0 ≤ y ∧ y < 18446744073709551616) (hc : 0 ≤ c ∧ c ≤ 1) : 0 ≤ hi (x + y + c) ∧ hi (x + y + c) ≤ 1 := by unfold hi; omega
theorem bor_bd (x y b : Int) : 0 ≤ bor x y b ∧ bor x y b ≤ 1 := by unfold bor; split <;> omega
theorem lo_bor {x y b : Int} (hx : 0 ≤ x ∧ x < 18446744073709551616) (hy : 0 ≤ y ∧ y < 18446744073709551616) (hb : 0 ≤ b ∧ b ≤ 1) : lo (x - y - b) - 18446744073709551616 * bor x y b = x - y - b := by
  unfold lo bor; split <;> omega

/-- The sum of so many limbs, each by its place. -/
def vs (B : Int) (f : Nat → Int) : Nat → Int
  | 0 => 0
  | n + 1 => vs B f n + B ^ n * f n

theorem vs_congr {B : Int} {f g : Nat → Int} {n : Nat} (h : ∀ i, i < n → f i = g i) : vs B f n = vs B g n := by
  induction n with
  | zero => rfl
  | succ n ih => simp only [vs]; rw [ih (fun i hi => h i (by omega)), h n (by omega)]

theorem val_take_succ' (B : Int) (zs : List Int) (k : Nat) : val B (zs.take (k + 1)) = val B (zs.take k) + B ^ k * zs.getD k 0 := by
  by_cases h : k < zs.length
  · exact val_take_succ B zs k h
  · rw [List.take_of_length_le (by omega), List.take_of_length_le (by omega)]
    simp [List.getD, List.getElem?_eq_none (Nat.le_of_not_lt h)]

theorem vs_val (B : Int) (zs : List Int) (n : Nat) : vs B (fun i => zs.getD i 0) n = val B (zs.take n) := by
  induction n with
  | zero => simp [vs, val]
  | succ n ih => rw [val_take_succ', ← ih]; rfl

theorem vs_all (B : Int) (zs : List Int) {n : Nat} (h : zs.length ≤ n) : vs B (fun i => zs.getD i 0) n = val B zs := by
  rw [vs_val, List.take_of_length_le h]

theorem vs_nonneg {B : Int} (hB : 0 < B) {f : Nat → Int} {n : Nat} (h : ∀ i, i < n → 0 ≤ f i) : 0 ≤ vs B f n := by
  induction n with
  | zero => exact Int.le_refl _
  | succ n ih =>
    have h1 := ih (fun i hi => h i (by omega))
    have h2 : 0 ≤ B ^ n * f n := Int.mul_nonneg (Int.le_of_lt (pow_pos' hB n)) (h n (by omega))
    simp only [vs]; omega

theorem vs_lt {B : Int} (hB : 0 < B) {f : Nat → Int} {n : Nat} (h : ∀ i, i < n → 0 ≤ f i ∧ f i < B) : vs B f n < B ^ n := by
  induction n with
  | zero => simp [vs]
  | succ n ih =>
    have h1 := ih (fun i hi => h i (by omega))
    have h2 : B ^ n * (f n + 1) ≤ B ^ n * B := Int.mul_le_mul_of_nonneg_left (by have := h n (by omega); omega) (Int.le_of_lt (pow_pos' hB n))
    simp only [vs, Int.pow_succ]
    rw [Int.mul_add] at h2
    omega

theorem vs_add (B : Int) (f : Nat → Int) (m n : Nat) : vs B f (m + n) = vs B f m + B ^ m * vs B (fun i => f (m + i)) n := by
  induction n with
  | zero => simp [vs]
  | succ n ih =>
    rw [show m + (n + 1) = (m + n) + 1 by omega]
    simp only [vs]
    rw [ih, Int.pow_add, Int.mul_add, Int.mul_assoc]
    omega

theorem vs_zero (B : Int) {f : Nat → Int} {n : Nat} (h : ∀ i, i < n → f i = 0) : vs B f n = 0 := by
  induction n with
  | zero => rfl
  | succ n ih => simp only [vs]; rw [ih (fun i hi => h i (by omega)), h n (by omega)]; simp

theorem val_cut (B : Int) (zs : List Int) (k : Nat) : val B zs = val B (zs.take k) + B ^ k * val B (zs.drop k) := by
  by_cases h : k ≤ zs.length
  · exact val_split B zs k h
  · rw [List.take_of_length_le (by omega), List.drop_eq_nil_of_le (by omega)]; simp [val]

theorem val_trunc' {D : List Int} (hD : Digs 18446744073709551616 D) {n : Nat} (h : val 18446744073709551616 D < 18446744073709551616 ^ n) : vs 18446744073709551616 (fun i => D.getD i 0) n = val 18446744073709551616 D := by
  have hB : (0 : Int) < 18446744073709551616 := by decide
  rw [vs_val]
  have e := val_cut 18446744073709551616 D n
  have h1 := val_nonneg hB (hD.take n)
  have h2 := val_nonneg hB (hD.drop n)
  have h3 := pow_pos' hB n
  by_cases h0 : val 18446744073709551616 (D.drop n) = 0
  · rw [h0] at e; omega
  · have h4 : 18446744073709551616 ^ n * 1 ≤ 18446744073709551616 ^ n * val 18446744073709551616 (D.drop n) := Int.mul_le_mul_of_nonneg_left (by omega) (by omega)
    omega

/-- Block g holds these words at its head, and may be written. -/
def Blk (w : World) (g : Nat) (L : List Int) : Prop := ∃ cur : Array Value, w.heap[g]? = some (.cells cur 44 (0, 0)) ∧ cur.toList.take L.length = L.map (Value.int .u64)

theorem Blk.cell {w : World} {g : Nat} {L : List Int} (h : Blk w g L) {j : Nat} (hj : j < L.length) : w.cell? ⟨g, j, none⟩ = some (.int .u64 (L.getD j 0)) := by
  obtain ⟨cur, h1, h2⟩ := h
  rw [cell_of_row w g j _ _ _ h1]
  have h3 : (cur.toList.take L.length)[j]? = (L.map (Value.int .u64))[j]? := by rw [h2]
  rw [List.getElem?_take, if_pos hj] at h3
  rw [← Array.getElem?_toList, h3]
  simp [List.getD, hj]
theorem Blk.frozen {w : World} {g : Nat} {L : List Int} (h : Blk w g L) (j : Nat) : w.frozen? ⟨g, j, none⟩ = false := by
  obtain ⟨cur, h1, _⟩ := h
  exact frozen_of_row w g j _ _ h1
theorem Blk.lt {w : World} {g : Nat} {L : List Int} (h : Blk w g L) : g < w.heap.size := by
  obtain ⟨cur, h1, _⟩ := h
  exact (Array.getElem?_eq_some_iff.1 h1).1
theorem Blk.set {w : World} {g : Nat} {L : List Int} (h : Blk w g L) (j : Nat) (x : Int) : Blk (w.setCell ⟨g, j, none⟩ (.int .u64 x)) g (L.set j x) := by
  obtain ⟨cur, h1, h2⟩ := h
  refine ⟨cur.setIfInBounds j (.int .u64 x), heap_setCell_same w g j _ _ (.int .u64 x) h1, ?_⟩
  rw [Array.toList_setIfInBounds, List.length_set, List.take_set, h2, List.map_set]
theorem Blk.grown {w w' : World} {g : Nat} {L : List Int} {row : Option Nat} (h : Blk w g L) (hg : w.grownBy w' row) (hne : row ≠ some g) : Blk w' g L := by
  have hlt := h.lt
  obtain ⟨cur, h1, h2⟩ := h
  exact ⟨cur, by rw [hg.block g hlt (by intro e; exact hne e.symm)]; exact h1, h2⟩
theorem Blk.below {w w' : World} {g : Nat} {L : List Int} {B : Nat} (h : Blk w g L) (hb : Below B w w') (hlt : g < B) : Blk w' g L := by
  obtain ⟨cur, h1, h2⟩ := h
  exact ⟨cur, by rw [hb.block g hlt]; exact h1, h2⟩
theorem grown_set (w : World) (g j : Nat) (x : Value) : w.grownBy (w.setCell ⟨g, j, none⟩ x) (some g) :=
  ⟨rfl, rfl, rfl, by simp, fun k _ hk => heap_setCell_other w ⟨g, j, none⟩ k x (fun e => hk (by simp [e]))⟩
theorem grown_trans {a b c : World} {row : Option Nat} (h : a.grownBy b row) (k : b.grownBy c row) : a.grownBy c row :=
  ⟨k.os.trans h.os, k.tape.trans h.tape, k.output.trans h.output, Nat.le_trans h.size k.size, fun i hi hne => (k.block i (Nat.lt_of_lt_of_le hi h.size) hne).trans (h.block i hi hne)⟩
theorem grown_drewN (w : World) (n : Nat) (row : Option Nat) : w.grownBy (w.drewN n) row := ⟨rfl, rfl, rfl, Nat.le_refl _, fun _ _ _ => rfl⟩
theorem grown_of_below {w w' : World} (h : Below w.heap.size w w') (row : Option Nat) : w.grownBy w' row := ⟨h.os, h.tape, h.output, h.size, fun k hk _ => h.block k hk⟩
theorem below_of_grown {w w' : World} {g B : Nat} (h : w.grownBy w' (some g)) (hB : B ≤ g) (hs : B ≤ w.heap.size) : Below B w w' :=
  ⟨h.os, h.tape, h.output, h.size, fun k hk => h.block k (by omega) (by simp; omega)⟩

/-- The block that a slice lies in, if it has an element, is another one. -/
def Apart (a : Option Addr) (g : Nat) : Prop := ∀ x, a = some x → x.block ≠ g
theorem Nums.grown {w w' : World} {a : Option Addr} {len cap g : Nat} {zs : List Int} (h : Nums w a len cap zs) (hg : w.grownBy w' (some g)) (hne : 0 < len → Apart a g) : Nums w' a len cap zs := by
  refine ⟨h.hlen, h.hcap, h.hmax, fun hp => ?_, h.word⟩
  obtain ⟨b, off, ha, hc⟩ := h.cells hp
  refine ⟨b, off, ha, fun i hi => ?_⟩
  exact hg.cell (hc i hi) (by have := hne hp _ ha; simp; omega)
end Go.Proofs.YtchmlfjjgehbkaaGreat

namespace Go.Proofs.YtchmlfjjgehbkaaGreat
open Go.RowKit Go.Shelf

def mul64_ren : Go.Shelf.Ren := ⟨fun | 264 => 120 | n => n, fun | 53 => 44 | 46 => 121 | n => n, fun n => n⟩
theorem mul64_lays : Lays.n264 Tryz.prog mul64_ren :=
  { mixed := by kernel_rfl, f264 := Tryz.func120.trans (by kernel_rfl), t46 := Tryz.underlying121, a46 := Tryz.isAgg121, z46 := Tryz.sizeOf121, v46 := Tryz.zeroValue121,
    t53 := Tryz.underlying44, a53 := Tryz.isAgg44, z53 := Tryz.sizeOf44, v53 := Tryz.zeroValue44 }
theorem mul64N (x y : Nat) (hx : x < 18446744073709551616) (hy : y < 18446744073709551616) (w : World) :
    Calls Tryz.prog 120 #[.int .u64 x, .int .u64 y] w fun e w' => e = .returned (.tuple #[.int .u64 ((x * y / 18446744073709551616 : Nat) : Int), .int .u64 ((x * y % 18446744073709551616 : Nat) : Int)]) ∧ w' = w :=
  Any.bits_Mul64 mul64_lays x y hx hy w

theorem mul64_any (x y : Int) (hx : 0 ≤ x ∧ x < 18446744073709551616) (hy : 0 ≤ y ∧ y < 18446744073709551616) (w : World) :
    Calls Tryz.prog 120 #[.int .u64 x, .int .u64 y] w fun e w' => e = .returned (.tuple #[.int .u64 (hi (x * y)), .int .u64 (lo (x * y))]) ∧ w' = w := by
  obtain ⟨x, rfl⟩ := Int.eq_ofNat_of_zero_le hx.1
  obtain ⟨y, rfl⟩ := Int.eq_ofNat_of_zero_le hy.1
  have e1 : hi ((x : Int) * y) = ((x * y / 18446744073709551616 : Nat) : Int) := by unfold hi; rw [← Int.natCast_mul]; omega
  have e2 : lo ((x : Int) * y) = ((x * y % 18446744073709551616 : Nat) : Int) := by unfold lo; rw [← Int.natCast_mul]; omega
  rw [e1, e2]
  exact mul64N x y (by omega) (by omega) w

theorem hi_mul_bd {x y : Int} (hx : 0 ≤ x ∧ x < 18446744073709551616) (hy : 0 ≤ y ∧ y < 18446744073709551616) : 0 ≤ hi (x * y) ∧ hi (x * y) ≤ 18446744073709551614 ∧ x * y ≤ 18446744073709551615 * 18446744073709551615 ∧ 0 ≤ x * y := by
  have h0 : 0 ≤ x * y := Int.mul_nonneg hx.1 hy.1
  have h1 : x * y ≤ 18446744073709551615 * y := Int.mul_le_mul_of_nonneg_right (by omega) hy.1
  unfold hi
  omega
end Go.Proofs.YtchmlfjjgehbkaaGreat

namespace Go.Proofs.YtchmlfjjgehbkaaGreat
open Go.RowKit

theorem add64 (x y c : Int) (hx : 0 ≤ x) (hy : 0 ≤ y) (hc0 : 0 ≤ c) (hc : c ≤ 1) (w : World) : (callFunc 117 #[.int .u64 x, .int .u64 y, .int .u64 c]).run Tryz.prog w =
    .ok (.value (.tuple #[.int .u64 (lo (x + y + c)), .int .u64 (hi (x + y + c))])) w := by
  rw [run_callFunc_extern Tryz.func117 (by kernel_rfl) (by kernel_rfl) (by kernel_rfl) (e := add64Entry) (by kernel_rfl), run_add64 x y c hx hy hc0 hc]
  rfl

theorem getD_set_ne {L : List Int} {i j : Nat} {x : Int} (h : i ≠ j) : (L.set i x).getD j 0 = L.getD j 0 := by
  simp [List.getD, List.getElem?_set_ne h]
theorem getD_set_self {L : List Int} {i : Nat} {x : Int} (h : i < L.length) : (L.set i x).getD i 0 = x := by
  simp [List.getD, h]
theorem Digs.set {B : Int} {L : List Int} (h : Digs B L) (i : Nat) {x : Int} (hx : 0 ≤ x ∧ x < B) : Digs B (L.set i x) := by
  intro y hy
  rcases List.mem_or_eq_of_mem_set hy with hy | rfl
  · exact h y hy
  · exact hx

theorem limbZ_nat (zs : List Int) (k : Nat) : limbZ zs (k : Int) = zs.getD k 0 := by rw [limbZ, if_neg (by omega)]; simp

/-- What a round of the sum leaves. -/
theorem add_step {L M : List Int} {o n k : Nat} {ys : List Int} {cy : Int} (hk : k < n) (hon : o + n ≤ L.length) (hml : M.length = L.length) (hmd : Digs 18446744073709551616 M) (hyd : Digs 18446744073709551616 ys)
    (hsame : ∀ j, j < o ∨ o + k ≤ j → M.getD j 0 = L.getD j 0) (hc : 0 ≤ cy ∧ cy ≤ 1)
    (hv : vs 18446744073709551616 (fun i => M.getD (o + i) 0) k + 18446744073709551616 ^ k * cy = vs 18446744073709551616 (fun i => L.getD (o + i) 0) k + vs 18446744073709551616 (fun i => ys.getD i 0) k)
    (x y : Int) (hx : x = M.getD (o + k) 0) (hy : y = ys.getD k 0) :
    (M.set (o + k) (lo (x + y + cy))).length = L.length ∧ Digs 18446744073709551616 (M.set (o + k) (lo (x + y + cy))) ∧
    (∀ j, j < o ∨ o + (k + 1) ≤ j → (M.set (o + k) (lo (x + y + cy))).getD j 0 = L.getD j 0) ∧ (0 ≤ hi (x + y + cy) ∧ hi (x + y + cy) ≤ 1) ∧
    vs 18446744073709551616 (fun i => (M.set (o + k) (lo (x + y + cy))).getD (o + i) 0) (k + 1) + 18446744073709551616 ^ (k + 1) * hi (x + y + cy) = vs 18446744073709551616 (fun i => L.getD (o + i) 0) (k + 1) + vs 18446744073709551616 (fun i => ys.getD i 0) (k + 1) := by
  have bx : 0 ≤ x ∧ x < 18446744073709551616 := by rw [hx]; exact hmd.getD (by decide) _
  have by' : 0 ≤ y ∧ y < 18446744073709551616 := by rw [hy]; exact hyd.getD (by decide) _
  refine ⟨by simpa using hml, hmd.set _ (lo_bd _), fun j hj => ?_, hi_carry bx by' hc, ?_⟩
  · rw [getD_set_ne (by omega)]; exact hsame j (by omega)
  · have e1 : vs 18446744073709551616 (fun i => (M.set (o + k) (lo (x + y + cy))).getD (o + i) 0) k = vs 18446744073709551616 (fun i => M.getD (o + i) 0) k :=
      vs_congr (fun i hi => getD_set_ne (by omega))
    have e2 : (M.set (o + k) (lo (x + y + cy))).getD (o + k) 0 = lo (x + y + cy) := getD_set_self (by omega)
    have e3 := hsame (o + k) (by omega)
    simp only [vs]
    rw [e1, e2, ← e3, ← hx, ← hy]
    generalize hP : (18446744073709551616 : Int) ^ k = P at hv ⊢
    have e4 : (18446744073709551616 : Int) ^ (k + 1) = P * 18446744073709551616 := by rw [Int.pow_succ, hP]
    rw [e4, Int.mul_assoc]
    have e5 := lo_hi (x + y + cy)
    have e6 : P * lo (x + y + cy) + P * (18446744073709551616 * hi (x + y + cy)) = P * (x + y + cy) := by rw [← Int.mul_add, e5]
    rw [Int.mul_add, Int.mul_add] at e6
    omega

set_option maxHeartbeats 800000 in
theorem addTo_any (s : Option Addr) (g o n c : Nat) (L : List Int) (b : Option Addr) (lb cb : Nat) (ys : List Int) (w : World) (hs : 0 < n → s = some ⟨g, o, none⟩)
    (hblk : Blk w g L) (hL : Digs 18446744073709551616 L) (hon : o + n ≤ L.length) (hn : n ≤ 100000) (hy : Nums w b lb cb ys) (hap : 0 < lb → Apart b g) :
    Calls Tryz.prog 105 #[.slice s n c, .slice b lb cb] w fun e w' => ∃ M cy, e = .returned (.int .u64 cy) ∧ Blk w' g M ∧ Digs 18446744073709551616 M ∧ M.length = L.length ∧
      (∀ j, j < o ∨ o + n ≤ j → M.getD j 0 = L.getD j 0) ∧ (0 ≤ cy ∧ cy ≤ 1) ∧
      vs 18446744073709551616 (fun i => M.getD (o + i) 0) n + 18446744073709551616 ^ n * cy = vs 18446744073709551616 (fun i => L.getD (o + i) 0) n + vs 18446744073709551616 (fun i => ys.getD i 0) n ∧
      w.grownBy w' (some g) := by
  have hyd := hy.digs
  go_enter Tryz.func105, Tryz.ntmps105
  go_wp2
  go_loopw [5, 9] (fun cv i wr => ∃ k : Nat, k ≤ n ∧ i = .int .i64 k ∧ ∃ M cy, cv = .int .u64 cy ∧ Blk wr g M ∧ M.length = L.length ∧ Digs 18446744073709551616 M ∧
      (∀ j, j < o ∨ o + k ≤ j → M.getD j 0 = L.getD j 0) ∧ (0 ≤ cy ∧ cy ≤ 1) ∧
      vs 18446744073709551616 (fun i => M.getD (o + i) 0) k + 18446744073709551616 ^ k * cy = vs 18446744073709551616 (fun i => L.getD (o + i) 0) k + vs 18446744073709551616 (fun i => ys.getD i 0) k ∧
      w.grownBy wr (some g)) (fun _ i _ => n - (intOf i).toNat)
  case atStart => exact ⟨0, Nat.zero_le _, rfl, L, 0, rfl, hblk, rfl, hL, fun _ _ => rfl, by omega, by simp [vs], World.grownBy.refl _ _⟩
  case round =>
    obtain ⟨k, hk, rfl, M, cy, rfl, hbM, hml, hmd, hsame, hcy, hv, hgr⟩ := hrel
    by_cases hlt : k < n
    · obtain rfl := hs (by omega)
      obtain ⟨x, hx⟩ : ∃ x, x = M.getD (o + k) 0 := ⟨_, rfl⟩
      obtain ⟨y, hy'⟩ : ∃ y, y = ys.getD k 0 := ⟨_, rfl⟩
      have hc1 : wr.cell? ⟨g, o + k, none⟩ = some (.int .u64 x) := by rw [hx]; exact hbM.cell (by omega)
      have hf1 : wr.frozen? ⟨g, o + k, none⟩ = false := hbM.frozen _
      have R := add_step hlt hon hml hmd hyd hsame hcy hv x y hx hy'
      have HR := (show Hid _ from R)
      have hyn := hy.grown hgr hap
      have hlz : limbZ ys (k : Int) = y := by rw [limbZ_nat, hy']
      have bx : 0 ≤ x ∧ x < 18446744073709551616 := by rw [hx]; exact hmd.getD (by decide) _
      have by' : 0 ≤ y ∧ y < 18446744073709551616 := by rw [hy']; exact hyd.getD (by decide) _
      have HS := (show Hid _ from And.intro hml hv)
      have HA := (show Hid _ from add64 x y cy bx.1 by'.1 hcy.1 hcy.2)
      have hki : (k : Int) < (n : Int) := by omega
      have HB := (show Hid _ from hbM.set (o + k) (lo (x + y + cy)))
      have HG := (show Hid _ from grown_trans hgr (grown_set wr g (o + k) (.int .u64 (lo (x + y + cy)))))
      clear hx hy' hml hmd hsame hv R hbM hL hon hyd hblk hgr
      go_wp2_with fail
      go_region_with (first | (go_at_call 116; refine (limb_any b lb cb ys (k : Int) _ ?_).mono ?_; (exact ⟨hyn.hlen, hyn.hcap, hyn.hmax, hyn.cells, hyn.word⟩); rintro e w' ⟨rfl, rfl⟩; rw [hlz]) | simp only [add64 x y cy bx.1 by'.1 hcy.1 hcy.2])
      all_goals
        go_wp2
        go_roundw
        case rel => exact ⟨k + 1, by omega, by go_num, _, _, rfl, HB.out, HR.out.1, HR.out.2.1, HR.out.2.2.1, HR.out.2.2.2.1, HR.out.2.2.2.2, grown_trans HG.out ⟨rfl, rfl, rfl, Nat.le_refl _, fun _ _ _ => rfl⟩⟩
        case measure => simp [intOf]; omega
    · obtain rfl : k = n := by omega
      go_wp2
      go_ret
      exact ⟨M, cy, rfl, hbM, hmd, hml, hsame, hcy, hv, hgr⟩
end Go.Proofs.YtchmlfjjgehbkaaGreat

namespace Go.Proofs.YtchmlfjjgehbkaaGreat
open Go.RowKit

theorem vs_set {B : Int} {M : List Int} {j n : Nat} {v : Int} (hj : j < n) (hl : j < M.length) :
    vs B (fun i => (M.set j v).getD i 0) n = vs B (fun i => M.getD i 0) n + B ^ j * (v - M.getD j 0) := by
  induction n with
  | zero => omega
  | succ n ih =>
    simp only [vs]
    by_cases e : j = n
    · subst e
      rw [getD_set_self hl, vs_congr (g := fun i => M.getD i 0) (fun i hi => getD_set_ne (by omega)), Int.mul_sub]
      omega
    · rw [ih (by omega), getD_set_ne e]
      omega

/-- Two lists that part within a segment alone. -/
theorem vs_seg {B : Int} {N M : List Int} {o m n : Nat} (hn : o + m ≤ n) (h : ∀ j, j < o ∨ o + m ≤ j → N.getD j 0 = M.getD j 0) :
    vs B (fun j => N.getD j 0) n = vs B (fun j => M.getD j 0) n + B ^ o * (vs B (fun i => N.getD (o + i) 0) m - vs B (fun i => M.getD (o + i) 0) m) := by
  obtain ⟨r, rfl⟩ : ∃ r, n = o + (m + r) := ⟨n - o - m, by omega⟩
  rw [vs_add, vs_add, vs_add B (fun j => M.getD j 0) o, vs_add B (fun i => M.getD (o + i) 0) m]
  have e1 : vs B (fun j => N.getD j 0) o = vs B (fun j => M.getD j 0) o := vs_congr (fun i hi => h i (by omega))
  have e2 : vs B (fun i => N.getD (o + (m + i)) 0) r = vs B (fun i => M.getD (o + (m + i)) 0) r := vs_congr (fun i hi => h _ (by omega))
  rw [e1, e2, Int.mul_add, Int.mul_add, Int.mul_sub]
  omega

/-- So many noughts; and words laid over the first ones of others. (Behind names of their own, so that a walk leaves them as they stand.) -/
def noughts (n : Nat) : List Int := List.replicate n 0
def over (zs L : List Int) (n : Nat) : List Int := zs ++ L.drop n
theorem over_noughts (zs : List Int) (n m : Nat) : over zs (noughts m) n = zs ++ List.replicate (m - n) 0 := by simp [over, noughts]
theorem length_noughts (n : Nat) : (noughts n).length = n := by simp [noughts]

theorem wpList_mk (w : World) {ops : Array Oper} {rest : List Oper} {o : Oper} {a : Act} {Q : Exit → Act → World → Prop}
    (hg : o.guard = none) (l c : Operand) (t : TypeId) (hop : o.op = Op.makeSlice t l c) (ht : Tryz.prog.underlying t = some (.slice 44))
    (kl kc : IntKind) (L C : Int) (n : Nat) (hl : a.eval l = .int kl L) (hc : a.eval c = .int kc C) (hL : L = (n : Int)) (hC : C = (n : Int)) (hn : n ≤ 1000000)
    (hK : ∀ w', Blk w' w.heap.size (noughts n) → Below w.heap.size w w' → w'.heap.size = w.heap.size + 1 → wpList Tryz.prog ops Q rest (a.put o.dst (.slice (some ⟨w.heap.size, 0, none⟩) n n)) w') :
    wpList Tryz.prog ops Q (o :: rest) a w := by
  obtain ⟨i0, hi, hz0, hz1, hz2⟩ := info_parts Tryz.info25
  refine wpList_plain hg fun K hK' => ?_
  subst hL
  subst hC
  have hrun := run_make (P := Tryz.prog) w t 44 i0 (.int .u64 0) ht hi hz0 kl kc n n (by omega) (Int.le_refl _) (by rw [hz2]; omega) (by omega)
  simp only [Int.toNat_natCast] at hrun
  unfold Oper.wp
  simp [execOp, hop, hl, hc, hrun, Result.andThen]
  refine hK' _ _ (hK _ ?_ ((Below.refl _ _).alloc (Nat.le_refl _) _) (by simp))
  have e : (madeCells (Value.int .u64 0).cells (n * i0.size)) = ((List.replicate n (0 : Int)).map (Value.int .u64)).toArray := by
    apply Array.toList_inj.1
    have := toList_madeCells_one (.int .u64 0) n
    rw [hz1, Nat.mul_one]
    simpa [Value.cells] using this
  refine ⟨_, heap_alloc_new w _, ?_⟩
  rw [e]
  simp [noughts]

theorem wpList_cp (w : World) {ops : Array Oper} {rest : List Oper} {o : Oper} {a : Act} {Q : Exit → Act → World → Prop} (hgd : o.guard = none) (d s : Operand) (dT sT : TypeId)
    (ho : o.op = .call { callee := .builtin .copy, args := #[d, s], argTypes := #[dT, sT] }) (hu : Tryz.prog.underlying dT = some (.slice 44))
    (g n cp : Nat) (L : List Int) (hd : a.eval d = .slice (some ⟨g, 0, none⟩) n cp) (hb : Blk w g L) (hnL : n ≤ L.length)
    (sa : Option Addr) (la ca : Nat) (zs : List Int) (hs : a.eval s = .slice sa la ca) (hz : Nums w sa la ca zs) (hle : la ≤ n)
    (h : ∀ w', Blk w' g (over zs L la) → w.grownBy w' (some g) → w'.heap.size = w.heap.size → wpList Tryz.prog ops Q rest (a.put o.dst (goInt la)) w') :
    wpList Tryz.prog ops Q (o :: rest) a w := by
  obtain ⟨i0, hi, hz0, hz1, hz2⟩ := info_parts Tryz.info25
  have hsz : (Tryz.prog.info? 44).map (·.size) = some 1 := by rw [hi]; simp [hz1]
  have hl := hz.hlen
  by_cases h0 : la = 0
  · subst h0
    have e : zs = [] := List.eq_nil_of_length_eq_zero hl
    subst e
    exact wpList_copy_nothing hgd d s dT sT ho 44 hu hsz _ _ n cp 0 ca hd hs (by simp) (h w (by simpa [over] using hb) (World.grownBy.refl _ _) rfl)
  · obtain ⟨b, off, rfl, hc⟩ := hz.cells (by omega)
    have hlen : (zs.map (Value.int .u64)).length = la := by simp [hl]
    obtain ⟨cur, hb1, hb2⟩ := hb
    have hsize : L.length ≤ cur.size := by have := congrArg List.length hb2; simp at this; omega
    refine wpList_copy_own hgd d s dT sT ho 44 hu hsz g 0 n cp ⟨b, off, none⟩ la ca hd hs _ _ hb1 (zs.map (Value.int .u64)) (by rw [hlen]; exact (Nat.min_eq_left hle).symm) ?_ ?_ (ints_oneCell _ _) ?_
    · intro j v hj
      have hjl : j < la := by have := (List.getElem?_eq_some_iff.1 hj).1; omega
      rw [Addr.add_lit, hc j hjl]
      have : (zs.map (Value.int .u64))[j]? = some (.int .u64 (zs.getD j 0)) := by simp [List.getD, show j < zs.length by omega]
      rw [this] at hj
      exact hj
    · simp; omega
    · rw [hlen]
      refine h _ ?_ ⟨rfl, rfl, rfl, by simp [World.setRow], fun k _ hk => setRow_other w g k _ (fun e => hk (by simp [e]))⟩ (by simp [World.setRow])
      refine ⟨_, setRow_heap w g _ _ _ _ hb1, ?_⟩
      have e2 : (over zs L la).length = L.length := by simp [over]; omega
      rw [e2]
      simp only [over, List.map_append, List.map_drop, ← hb2, List.take_zero, List.nil_append, Nat.zero_add]
      rw [List.take_append, List.take_of_length_le (by simp; omega), List.length_map, hl, List.drop_take]

theorem val_pad (zs : List Int) (m : Nat) : val 18446744073709551616 (zs ++ List.replicate m 0) = val 18446744073709551616 zs := by
  rw [val_append, val_zeros (zs := List.replicate m 0) _ (fun x hx => (List.mem_replicate.1 hx).2)]; omega
theorem Digs.pad {zs : List Int} (h : Digs 18446744073709551616 zs) (m : Nat) : Digs 18446744073709551616 (zs ++ List.replicate m 0) := by
  intro x hx
  rcases List.mem_append.1 hx with hx | hx
  · exact h x hx
  · rw [(List.mem_replicate.1 hx).2]; omega

/-- The sum has room: nothing is carried out of one limb more. -/
theorem plus_end {L M zs ys : List Int} {m : Nat} {cy : Int} (hz : Digs 18446744073709551616 zs) (hy : Digs 18446744073709551616 ys) (hlz : zs.length ≤ m) (hly : ys.length ≤ m) (hLe : val 18446744073709551616 L = val 18446744073709551616 zs) (hLl : L.length = m + 1) (hMl : M.length = L.length)
    (hMd : Digs 18446744073709551616 M) (hcy : 0 ≤ cy ∧ cy ≤ 1)
    (hv : vs 18446744073709551616 (fun i => M.getD (0 + i) 0) (m + 1) + 18446744073709551616 ^ (m + 1) * cy = vs 18446744073709551616 (fun i => L.getD (0 + i) 0) (m + 1) + vs 18446744073709551616 (fun i => ys.getD i 0) (m + 1)) :
    val 18446744073709551616 M = val 18446744073709551616 zs + val 18446744073709551616 ys := by
  have hB : (0 : Int) < 18446744073709551616 := by decide
  simp only [Nat.zero_add] at hv
  rw [vs_all _ M (by omega), vs_all _ L (by omega), vs_all _ ys (by omega), hLe] at hv
  have b1 := val_lt_pow hB hz hlz
  have b2 := val_lt_pow hB hy hly
  have b3 := val_nonneg hB hMd
  have b4 : (18446744073709551616 : Int) ^ (m + 1) = 18446744073709551616 ^ m * 18446744073709551616 := Int.pow_succ ..
  have b5 := pow_pos' hB m
  have hc : cy = 0 ∨ cy = 1 := by omega
  rcases hc with rfl | rfl
  · omega
  · rw [b4] at hv
    generalize (18446744073709551616 : Int) ^ m = P at b1 b2 b5 hv
    omega

set_option maxHeartbeats 800000 in
theorem plus_any (a b : Option Addr) (la ca lb cb : Nat) (zs ys : List Int) (w : World) (h : Nums w a la ca zs) (h' : Nums w b lb cb ys) (hla : la ≤ 10000) (hlb : lb ≤ 10000) :
    Calls Tryz.prog 103 #[.slice a la ca, .slice b lb cb] w fun e w' => ∃ L n, e = .returned (.slice (some ⟨w.heap.size, 0, none⟩) n n) ∧ L.length = n ∧ n = Nat.max la lb + 1 ∧
      Blk w' w.heap.size L ∧ Digs 18446744073709551616 L ∧ val 18446744073709551616 L = val 18446744073709551616 zs + val 18446744073709551616 ys ∧ Below w.heap.size w w' := by
  have hl := h.hlen
  have hl' := h'.hlen
  have HLs : Hid (zs.length = la ∧ ys.length = lb) := ⟨hl, hl'⟩
  have hapb : 0 < lb → Apart b w.heap.size := fun hp x hx => by
    obtain ⟨b1, o1, rfl, hc⟩ := h'.cells hp
    have := World.block_lt_of_cell? w _ (hc 0 hp)
    cases hx
    simp at this ⊢; omega
  have hd := h.digs
  have hd' := h'.digs
  clear hl hl'
  obtain ⟨m, hm, hla', hlb', hcase⟩ : ∃ m, m = Nat.max la lb ∧ la ≤ m ∧ lb ≤ m ∧ m ≤ 10000 := ⟨_, rfl, Nat.le_max_left .., Nat.le_max_right .., Nat.max_le.2 ⟨hla, hlb⟩⟩
  have HM : Hid (m = Nat.max la lb) := hm
  have fin : ∀ w1, Blk w1 w.heap.size (noughts (m + 1)) → Below w.heap.size w w1 → ∀ w2, Blk w2 w.heap.size (over zs (noughts (m + 1)) la) → w1.grownBy w2 (some w.heap.size) → Nums w1 b lb cb ys ∧
      Calls Tryz.prog 105 #[.slice (some ⟨w.heap.size, 0, none⟩) (m + 1) (m + 1), .slice b lb cb] w2 fun e w' => ∃ M cy, e = .returned (.int .u64 cy) ∧ M.length = m + 1 ∧ Blk w' w.heap.size M ∧ Digs 18446744073709551616 M ∧ val 18446744073709551616 M = val 18446744073709551616 zs + val 18446744073709551616 ys ∧ Below w.heap.size w w' := by
    intro w1 hb1 hbel w2 hb2 hg
    have hn1 := h'.below hbel
    refine ⟨hn1, ?_⟩
    have hlen : (zs ++ List.replicate (m + 1 - la) (0 : Int)).length = m + 1 := by simp [HLs.out.1]; omega
    rw [over_noughts] at hb2
    refine (addTo_any _ w.heap.size 0 (m + 1) _ _ b lb cb ys w2 (fun _ => rfl) hb2 (hd.pad _) (by omega) (by omega) (hn1.grown hg hapb) hapb).mono ?_
    rintro e w3 ⟨M, cy, rfl, hbM, hMd, hMl, -, hcy, hv, hg3⟩
    have hb12 := hbel.trans (below_of_grown hg (Nat.le_refl _) hbel.size)
    exact ⟨M, cy, rfl, by omega, hbM, hMd, plus_end hd hd' (by have := HLs.out; omega) (by have := HLs.out; omega) (val_pad _ _) hlen hMl hMd hcy hv, hb12.trans (below_of_grown hg3 (Nat.le_refl _) hb12.size)⟩
  have Hfin := (show Hid _ from fin)
  clear fin hm
  by_cases hlt : la < lb
  · obtain rfl : m = lb := HM.out.trans (Nat.max_eq_right (Nat.le_of_lt hlt))
    go_enter Tryz.func103, Tryz.ntmps103
    go_wp2_with (at_make; refine wpList_mk _ rfl _ _ 26 rfl Tryz.underlying26 .i64 .i64 _ _ (m + 1) rfl rfl (by omega) (by omega) (by omega) ?_)
    intro w1 hb1 hbel hsz
    have hza := h.below hbel
    go_wp2_with (refine wpList_cp _ (by rfl) _ _ 26 26 (by rfl) Tryz.underlying26 w.heap.size (m + 1) (m + 1) _ (by rfl) hb1 (by simp [noughts]) _ _ _ zs (by rfl) hza (by omega) ?_)
    intro w2 hb2 hg2 hsz2
    have hcall := (Hfin.out w1 hb1 hbel w2 hb2 hg2).2
    clear hb1 hb2 hg2 hza
    go_wp2_with fail
    refine hcall.mono ?_
    rintro e w3 ⟨M, cy, rfl, hMl, hbM, hMd, hv, hbf⟩
    go_wp2_with fail
    go_ret
    exact ⟨M, _, rfl, hMl, by rw [← HM.out], hbM, hMd, hv, hbf⟩
  · obtain rfl : m = la := HM.out.trans (Nat.max_eq_left (Nat.le_of_not_lt hlt))
    go_enter Tryz.func103, Tryz.ntmps103
    go_wp2_with (at_make; refine wpList_mk _ rfl _ _ 26 rfl Tryz.underlying26 .i64 .i64 _ _ (m + 1) rfl rfl (by omega) (by omega) (by omega) ?_)
    intro w1 hb1 hbel hsz
    have hza := h.below hbel
    go_wp2_with (refine wpList_cp _ (by rfl) _ _ 26 26 (by rfl) Tryz.underlying26 w.heap.size (m + 1) (m + 1) _ (by rfl) hb1 (by simp [noughts]) _ _ _ zs (by rfl) hza (by omega) ?_)
    intro w2 hb2 hg2 hsz2
    have hcall := (Hfin.out w1 hb1 hbel w2 hb2 hg2).2
    clear hb1 hb2 hg2 hza
    go_wp2_with fail
    refine hcall.mono ?_
    rintro e w3 ⟨M, cy, rfl, hMl, hbM, hMd, hv, hbf⟩
    go_wp2_with fail
    go_ret
    exact ⟨M, _, rfl, hMl, by rw [← HM.out], hbM, hMd, hv, hbf⟩
end Go.Proofs.YtchmlfjjgehbkaaGreat

namespace Go.Proofs.YtchmlfjjgehbkaaGreat
open Go.RowKit

/-- What is told of the value v: its limbs, or the error 4 where they are more than 64. -/
def Res (v : Int) (ls : List Int) (err : Int) : Prop :=
  (err = 0 ∧ Digs 18446744073709551616 ls ∧ Top ls ∧ ls.length ≤ 64 ∧ val 18446744073709551616 ls = v) ∨
  (err = 4 ∧ ls = [] ∧ ∃ zs, Digs 18446744073709551616 zs ∧ Top zs ∧ val 18446744073709551616 zs = v ∧ 64 < zs.length)

theorem Res.unique {v : Int} {ls ks : List Int} {e f : Int} (h : Res v ls e) (h' : Res v ks f) : ls = ks ∧ e = f := by
  have hB : (0 : Int) < 18446744073709551616 := by decide
  rcases h with ⟨rfl, hd, ht, hl, hv⟩ | ⟨rfl, rfl, zs, hd, ht, hv, hl⟩ <;> rcases h' with ⟨rfl, hd', ht', hl', hv'⟩ | ⟨rfl, rfl, zs', hd', ht', hv', hl'⟩
  · exact ⟨val_inj hB hd hd' ht ht' (hv.trans hv'.symm), rfl⟩
  · have := val_inj hB hd hd' ht ht' (hv.trans hv'.symm); subst this; omega
  · have := val_inj hB hd hd' ht ht' (hv.trans hv'.symm); subst this; omega
  · exact ⟨rfl, rfl⟩

/-- The slice lies at the head of a block that was made since the world w0. -/
def Fresh (w0 w : World) (a : Option Addr) (n : Nat) : Prop := 0 < n → ∃ g L, a = some ⟨g, 0, none⟩ ∧ w0.heap.size ≤ g ∧ Blk w g L ∧ n ≤ L.length

theorem Blk.nums {w : World} {g n : Nat} {L : List Int} (h : Blk w g L) (hd : Digs 18446744073709551616 L) (hl : L.length = n) (hn : n ≤ 1000000) : Nums w (some ⟨g, 0, none⟩) n n L := by
  subst hl
  refine ⟨rfl, Nat.le_refl _, by unfold maxLen; omega, fun _ => ⟨g, 0, rfl, fun i hi => ?_⟩, hd⟩
  rw [Nat.zero_add]; exact h.cell hi

set_option maxHeartbeats 400000 in
theorem fitted_any (a : Option Addr) (len cap : Nat) (zs : List Int) (w : World) (h : Nums w a len cap zs) :
    Calls Tryz.prog 85 #[.slice a len cap] w fun e w' => ∃ a' n cap' ls err, e = .returned (.tuple #[.slice a' n cap', .int .i64 err]) ∧ Nums w a' n cap' ls ∧ Res (val 18446744073709551616 zs) ls err ∧ (0 < n → a' = a) ∧ n ≤ len ∧ w' = w := by
  have hm := h.hmax
  have hcp := h.hcap
  have hd := h.digs
  go_enter Tryz.func85, Tryz.ntmps85
  go_wp2_with fail
  refine (trimmed_any _ _ _ _ _ h).mono ?_
  rintro e w' ⟨a', k, cap', rfl, htr, hk, rfl⟩
  have hkl : k ≤ len := by have := htr.le; have := h.hlen; omega
  have hn : Nums w' a' k cap' (zs.take k) := by
    rcases hk with ⟨rfl, rfl, rfl⟩ | ⟨_, rfl, rfl⟩
    · simpa using Nums.nil w'
    · exact h.take hkl
  have hlk : (zs.take k).length = k := hn.hlen
  have ha : 0 < k → a' = a := fun hp => by rcases hk with ⟨rfl, _, _⟩ | ⟨_, rfl, _⟩; exact absurd hp (Nat.lt_irrefl _); rfl
  clear hk
  unfold maxLen at hm
  by_cases h64 : k ≤ 64
  · have hdc : decide ((64 : Int) < (k : Int)) = false := by simp; omega
    have hres : Res (val 18446744073709551616 zs) (zs.take k) 0 := .inl ⟨rfl, hd.take k, htr.Top, by omega, htr.val⟩
    have HH := (show Hid _ from And.intro hres hn)
    clear hres hn hlk htr
    go_wp2_with fail
    go_ret2
    exact ⟨_, _, _, _, _, rfl, HH.out.2, HH.out.1, ha, hkl, rfl⟩
  · have hdc : (64 : Int) < (k : Int) := by omega
    have hres : Res (val 18446744073709551616 zs) [] 4 := .inr ⟨rfl, rfl, zs.take k, hd.take k, htr.Top, htr.val, by omega⟩
    have HH : Hid (Res (val 18446744073709551616 zs) [] 4) := hres
    clear hres hn hlk htr
    go_wp2_with fail
    go_ret2
    exact ⟨none, 0, 0, [], 4, rfl, Nums.nil _, HH.out, fun hp => absurd hp (Nat.lt_irrefl _), Nat.zero_le _, rfl⟩

/-- What is told of two numbers: the error 1 where one of them may not be. -/
def Res2 (zs ys : List Int) (v : Int) (ls : List Int) (err : Int) : Prop :=
  if rightB zs && rightB ys then Res v ls err else err = 1 ∧ ls = []

theorem Res2.unique {zs ys : List Int} {v : Int} {ls ks : List Int} {e f : Int} (h : Res2 zs ys v ls e) (h' : Res2 zs ys v ks f) : ls = ks ∧ e = f := by
  unfold Res2 at h h'
  split at h <;> simp_all
  exact h.unique h'

set_option maxHeartbeats 400000 in
theorem add_any (a b : Option Addr) (la ca lb cb : Nat) (zs ys : List Int) (w : World) (h : Nums w a la ca zs) (h' : Nums w b lb cb ys) :
    Calls Tryz.prog 88 #[.slice a la ca, .slice b lb cb] w fun e w' => ∃ a' n cap' ls err, e = .returned (.tuple #[.slice a' n cap', .int .i64 err]) ∧ Nums w' a' n cap' ls ∧
      Res2 zs ys (val 18446744073709551616 zs + val 18446744073709551616 ys) ls err ∧ Fresh w w' a' n ∧ Below w.heap.size w w' := by
  cases hr : rightB zs with
  | false =>
    go_enter Tryz.func88, Tryz.ntmps88
    go_wp2_with fail
    refine (right_any _ _ _ _ _ h).mono ?_
    rintro e w' ⟨rfl, rfl⟩
    go_wp2_with fail
    go_ret2
    exact ⟨none, 0, 0, [], 1, rfl, Nums.nil _, by simp [Res2, hr], fun hp => absurd hp (Nat.lt_irrefl _), Below.refl _ _⟩
  | true =>
  cases hr' : rightB ys with
  | false =>
    go_enter Tryz.func88, Tryz.ntmps88
    go_wp2_with fail
    refine (right_any _ _ _ _ _ h).mono ?_
    rintro e w' ⟨rfl, rfl⟩
    go_wp2_with fail
    refine (right_any _ _ _ _ _ h').mono ?_
    rintro e w' ⟨rfl, rfl⟩
    go_wp2_with fail
    go_ret2
    exact ⟨none, 0, 0, [], 1, rfl, Nums.nil _, by simp [Res2, hr'], fun hp => absurd hp (Nat.lt_irrefl _), Below.refl _ _⟩
  | true =>
    have hla : la ≤ 64 := by have := right_len hr; have := h.hlen; omega
    have hlb : lb ≤ 64 := by have := right_len hr'; have := h'.hlen; omega
    go_enter Tryz.func88, Tryz.ntmps88
    go_wp2_with fail
    refine (right_any _ _ _ _ _ h).mono ?_
    rintro e w' ⟨rfl, rfl⟩
    go_wp2_with fail
    refine (right_any _ _ _ _ _ h').mono ?_
    rintro e w0 ⟨rfl, rfl⟩
    go_wp2_with fail
    refine (plus_any _ _ _ _ _ _ _ _ _ h h' (by omega) (by omega)).mono ?_
    rintro e w1 ⟨L, n, rfl, hLl, hn, hblk, hLd, hv, hb⟩
    have hn' : n ≤ 1000000 := by have : Nat.max la lb ≤ 64 := Nat.max_le.2 ⟨hla, hlb⟩; omega
    have hnum := hblk.nums hLd hLl hn'
    have HV := (show Hid _ from And.intro hv hLl)
    clear hv hLl hn
    go_wp2_with fail
    refine (fitted_any _ _ _ _ _ hnum).mono ?_
    rintro e w2 ⟨a', k, cap', ls, err, rfl, hn2, hres, ha, hkl, rfl⟩
    rw [HV.out.1] at hres
    have HR : Hid (Res (val 18446744073709551616 zs + val 18446744073709551616 ys) ls err) := hres
    clear hres
    go_wp2_with fail
    go_ret2
    exact ⟨_, _, _, _, _, rfl, hn2, by simp only [Res2, hr, hr']; exact HR.out, fun hp => ⟨_, L, ha hp, Nat.le_refl _, hblk, by have := HV.out.2; omega⟩, hb⟩
end Go.Proofs.YtchmlfjjgehbkaaGreat

namespace Go.Proofs.YtchmlfjjgehbkaaGreat
open Go.RowKit



theorem fewB_two {a b : Nat} (h : fewB [a, b] = true) : a ≤ 70 ∧ b ≤ 70 := by
  simp [fewB] at h; exact h

theorem res_one {ls : List Int} {v err : Int} (hv : v = 1) (h : Res v ls err) : ls.length = 1 := by
  subst hv
  have h1 : Res 1 [1] 0 := .inl ⟨rfl, by intro x hx; simp at hx; subst hx; omega, .inr (by decide), by decide, by simp [val]⟩
  rw [(h.unique h1).1]; rfl

theorem Res2.ok {zs ys : List Int} {v : Int} {ls : List Int} (h : Res2 zs ys v ls 0) : rightB zs = true ∧ rightB ys = true ∧ Digs 18446744073709551616 ls ∧ Top ls ∧ ls.length ≤ 64 ∧ val 18446744073709551616 ls = v := by
  unfold Res2 at h
  split at h
  · rename_i hc
    simp only [Bool.and_eq_true] at hc
    rcases h with ⟨_, hd, ht, hl, hv⟩ | ⟨he, _⟩
    · exact ⟨hc.1, hc.2, hd, ht, hl, hv⟩
    · omega
  · omega
theorem Res2.swap {zs ys : List Int} {v v' : Int} {ls : List Int} {e : Int} (h : Res2 zs ys v ls e) (hv : v = v') : Res2 ys zs v' ls e := by
  subst hv
  unfold Res2 at h ⊢
  rwa [Bool.and_comm] at h

theorem int_of_wf {x : Int} (h : (Lit.int .i64 x).wf = true) : -9223372036854775808 ≤ x ∧ x < 9223372036854775808 := by
  simp [Lit.wf, IntKind.min, IntKind.max, IntKind.signed, IntKind.bits] at h
  exact ⟨by omega, by omega⟩
end Go.Proofs.YtchmlfjjgehbkaaGreat

/-
  The base of the seat's proofs: how a slice of 64-bit words lies in memory, and the contracts of the small functions that only read it.
  Contracts of the small functions: limb, Of, Small, Same, Compare and few, each for every argument.
  Contracts of the document's Small and Same, of cmp.Compare and of few, each for every argument.
  Plain arithmetic of digit lists: values, bounds, and that a number has one list without noughts behind.
  Contracts of cut and trimmed: the same limbs without the noughts behind.
  Contracts of the document's compare and of nat.Cmp: they compare the values.
  The contract of few: no list of limbs is longer than 70.
  Contracts of few and short: no list of limbs is longer than so many.
  Slices that the call itself makes by append: what they hold, and the laws of append at one word and at many.
  The contract of the document's In: a number as digits of base 65536, of the same value.
  The contract of the document's Cmp: it tells what nat.Cmp tells.
-/
import Derived.Test.YtaiikhbfnfcalaaRows
import Derived.WalkKit
import Derived.WalkSpells
import Derived.WalkLawsBesides
import Derived.ProofKit
import Derived.Below
import Derived.Deep.QuietTactic
import Derived.BigQuiet
import Derived.Laws.AppendOwnNone
namespace Go.Proofs.Ytaiikhbfnfcalaa
open Go.RowKit

/-- The slice (a, len, cap) of 64-bit words reads as the list zs. -/
structure Nums (w : World) (a : Option Addr) (len cap : Nat) (zs : List Int) : Prop where
  hlen : zs.length = len
  hcap : len ≤ cap
  hmax : cap ≤ maxLen
  cells : 0 < len → ∃ b off, a = some ⟨b, off, none⟩ ∧ ∀ i, i < len → w.cell? ⟨b, off + i, none⟩ = some (.int .u64 (zs.getD i 0))
  word : ∀ x, x ∈ zs → 0 ≤ x ∧ x < 18446744073709551616

theorem Nums.below {w w' : World} {a : Option Addr} {len cap : Nat} {zs : List Int} (h : Nums w a len cap zs) (hb : Below w.heap.size w w') : Nums w' a len cap zs := by
  refine ⟨h.hlen, h.hcap, h.hmax, fun hp => ?_, h.word⟩
  obtain ⟨b, off, ha, hc⟩ := h.cells hp
  exact ⟨b, off, ha, fun i hi => (hb.cell (p := ⟨b, off + i, none⟩) (World.block_lt_of_cell? w _ (hc i hi))).trans (hc i hi)⟩

/-- What a shell is told of a slice of integers that came in: it is nil; or it leads to a row of 'cap' cells, the numbers 'zs' (the first 'len' are its elements, the rest its spare room), each fitting its kind. -/
def IsRow (k : IntKind) (w : World) (a : Option Addr) (len cap : Nat) (zs : List Int) : Prop :=
  (a = none ∧ len = 0 ∧ cap = 0 ∧ zs = []) ∨
  ∃ x, a = some x ∧ len ≤ cap ∧ cap ≤ maxLen ∧ zs.length = cap ∧ (∀ i, i < zs.length → w.cell? (x.add i) = some (.int k (zs.getD i 0))) ∧ ∀ n ∈ zs, (Lit.int k n).wf = true

theorem word_of_wf {x : Int} (h : (Lit.int .u64 x).wf = true) : 0 ≤ x ∧ x < 18446744073709551616 := by
  simp [Lit.wf, IntKind.min, IntKind.max, IntKind.signed, IntKind.bits] at h
  exact ⟨by omega, by omega⟩

theorem Nums.of_row {w : World} {a : Option Addr} {len cap : Nat} {zs : List Int} (h : IsRow .u64 w a len cap zs) : Nums w a len cap (zs.take len) := by
  rcases h with ⟨rfl, rfl, rfl, rfl⟩ | ⟨x, rfl, hl, hm, hz, hcell, hwf⟩
  · exact ⟨rfl, Nat.le_refl _, Nat.zero_le _, fun h => absurd h (Nat.lt_irrefl _), fun x hx => by simp at hx⟩
  · refine ⟨by simp; omega, hl, hm, fun hp => ?_, fun y hy => word_of_wf (hwf y (List.mem_of_mem_take hy))⟩
    obtain ⟨b, off, spot⟩ := x
    have hc := hcell 0 (by omega)
    have hspot : spot = none := by simpa [Addr.add] using World.cell?_spot hc
    subst hspot
    refine ⟨b, off, rfl, fun i hi => ?_⟩
    have hi' := hcell i (by omega)
    rw [show (zs.take len).getD i 0 = zs.getD i 0 by simp [List.getD, hi]]
    rw [Addr.add_lit] at hi'
    exact hi'

theorem Nums.nil (w : World) : Nums w none 0 0 [] := ⟨rfl, Nat.le_refl _, Nat.zero_le _, fun h => absurd h (Nat.lt_irrefl _), fun x hx => by cases hx⟩

/-- May these limbs be a number's? -/
def rightB (zs : List Int) : Bool := decide (zs.length ≤ 64) && (zs.length == 0 || zs.getD (zs.length - 1) 0 != 0)

theorem Nums.lit1 (w : World) (x : Int) (hx : 0 ≤ x ∧ x < 18446744073709551616) (t : TypeId) : Nums (w.alloc (.cells #[.int .u64 x] t)) (some ⟨w.heap.size, 0, none⟩) 1 1 [x] := by
  refine ⟨rfl, Nat.le_refl _, by decide, fun _ => ⟨_, _, rfl, fun i hi => ?_⟩, fun y hy => ?_⟩
  · obtain rfl : i = 0 := by omega
    simp
  · simp at hy; subst hy; exact hx
end Go.Proofs.Ytaiikhbfnfcalaa

namespace Go.Proofs.Ytaiikhbfnfcalaa
open Go.RowKit

theorem ret_int {k : IntKind} {a b : Int} (h : a = b) : Ending.returned (.int k a) = .returned (.int k b) := by rw [h]
theorem ret_bool {a b : Bool} (h : a = b) : Ending.returned (.bool a) = .returned (.bool b) := by rw [h]

/-- The list of a small number. -/
def ofZ (n : Int) : List Int := if n = 0 then [] else [n]

/-- The limb at a place, 0 outside. -/
def limbZ (zs : List Int) (i : Int) : Int := if i < 0 then 0 else zs.getD i.toNat 0

/-- A number as a small one. -/
def smallZ (zs : List Int) : Int := if rightB zs && decide (zs.length ≤ 1) then zs.getD 0 0 else 0
def smallB (zs : List Int) : Bool := rightB zs && decide (zs.length ≤ 1)

end Go.Proofs.Ytaiikhbfnfcalaa

namespace Go.Proofs.Ytaiikhbfnfcalaa
open Go.RowKit

/-- -1, 0 or 1. -/
def cmpZ (x y : Int) : Int := if x < y then -1 else if y < x then 1 else 0

/-- The same limbs? -/
def sameB (zs ys : List Int) : Bool := decide (zs = ys)
theorem sameB_self (zs : List Int) : sameB zs zs = true := by simp [sameB]

theorem sameB_no {zs ys : List Int} {k : Nat} (hne : zs.getD k 0 ≠ ys.getD k 0) : sameB zs ys = false := by
  simp [sameB]; rintro rfl; exact hne rfl
theorem sameB_len {zs ys : List Int} (hne : zs.length ≠ ys.length) : sameB zs ys = false := by
  simp [sameB]; rintro rfl; exact hne rfl
theorem sameB_yes {zs ys : List Int} {k : Nat} (hl : zs.length = ys.length) (hk : zs.length ≤ k) (h : ∀ j, j < k → zs.getD j 0 = ys.getD j 0) : sameB zs ys = true := by
  simp only [sameB, decide_eq_true_eq]
  apply List.ext_getElem hl
  intro i h1 h2
  have := h i (by omega)
  simpa [List.getD, h1, h2] using this

end Go.Proofs.Ytaiikhbfnfcalaa

namespace Go.Proofs.Ytaiikhbfnfcalaa
open Go.RowKit

/-- The value of digits of base B, the lowest first. -/
def val (B : Int) : List Int → Int
  | [] => 0
  | x :: r => x + B * val B r

/-- Each is a digit of base B. -/
def Digs (B : Int) (zs : List Int) : Prop := ∀ x, x ∈ zs → 0 ≤ x ∧ x < B

/-- The last one is not 0. -/
def Top (zs : List Int) : Prop := zs = [] ∨ zs.getD (zs.length - 1) 0 ≠ 0

theorem val_nil (B : Int) : val B [] = 0 := rfl
theorem val_cons (B x : Int) (r : List Int) : val B (x :: r) = x + B * val B r := rfl

theorem val_append (B : Int) (xs ys : List Int) : val B (xs ++ ys) = val B xs + B ^ xs.length * val B ys := by
  induction xs with
  | nil => simp [val]
  | cons x r ih =>
    have e : B ^ (r.length + 1) = B * B ^ r.length := by rw [Int.pow_succ, Int.mul_comm]
    simp only [List.cons_append, val, ih, List.length_cons, e, Int.mul_add, Int.mul_assoc]
    omega

theorem val_snoc (B : Int) (xs : List Int) (x : Int) : val B (xs ++ [x]) = val B xs + B ^ xs.length * x := by
  rw [val_append]; simp [val]

theorem take_snoc (zs : List Int) (k : Nat) (h : k < zs.length) : zs.take (k + 1) = zs.take k ++ [zs.getD k 0] := by
  rw [List.take_succ_eq_append_getElem h]; simp [List.getD, h]

theorem val_take_succ (B : Int) (zs : List Int) (k : Nat) (h : k < zs.length) : val B (zs.take (k + 1)) = val B (zs.take k) + B ^ k * zs.getD k 0 := by
  rw [take_snoc zs k h, val_snoc]; simp [Nat.min_eq_left (Nat.le_of_lt h)]

theorem pow_pos' {B : Int} (hB : 0 < B) (k : Nat) : 0 < B ^ k := by
  induction k with
  | zero => simp
  | succ k ih => rw [Int.pow_succ]; exact Int.mul_pos ih hB

theorem pow_mono {B : Int} (hB : 0 < B) {i j : Nat} (h : i ≤ j) : B ^ i ≤ B ^ j := by
  induction j with
  | zero => obtain rfl : i = 0 := by omega
            exact Int.le_refl _
  | succ j ih =>
    by_cases e : i = j + 1
    · subst e; exact Int.le_refl _
    · have h1 := ih (by omega)
      have h2 := pow_pos' hB j
      have h3 : B ^ j * 1 ≤ B ^ j * B := Int.mul_le_mul_of_nonneg_left (by omega) (by omega)
      rw [Int.pow_succ]; omega

theorem val_nonneg {B : Int} (hB : 0 < B) {zs : List Int} (h : Digs B zs) : 0 ≤ val B zs := by
  induction zs with
  | nil => simp [val]
  | cons x r ih =>
    have h1 := h x (List.mem_cons_self ..)
    have h2 := ih (fun y hy => h y (List.mem_cons_of_mem _ hy))
    have h3 : 0 ≤ B * val B r := Int.mul_nonneg (by omega) h2
    simp only [val]; omega

theorem val_lt {B : Int} (hB : 0 < B) {zs : List Int} (h : Digs B zs) : val B zs < B ^ zs.length := by
  induction zs with
  | nil => simp [val]
  | cons x r ih =>
    have h1 := h x (List.mem_cons_self ..)
    have h2 := ih (fun y hy => h y (List.mem_cons_of_mem _ hy))
    have h3 : B * (val B r + 1) ≤ B * B ^ r.length := Int.mul_le_mul_of_nonneg_left (by omega) (by omega)
    simp only [val, List.length_cons, Int.pow_succ]
    rw [Int.mul_comm (B ^ r.length) B]
    rw [Int.mul_add] at h3
    omega

theorem Digs.take {B : Int} {zs : List Int} (h : Digs B zs) (k : Nat) : Digs B (zs.take k) := fun x hx => h x (List.mem_of_mem_take hx)
theorem Digs.drop {B : Int} {zs : List Int} (h : Digs B zs) (k : Nat) : Digs B (zs.drop k) := fun x hx => h x (List.mem_of_mem_drop hx)
theorem Digs.snoc {B : Int} {zs : List Int} (h : Digs B zs) {x : Int} (hx : 0 ≤ x ∧ x < B) : Digs B (zs ++ [x]) := by
  intro y hy
  rcases List.mem_append.1 hy with hy | hy
  · exact h y hy
  · simp at hy; subst hy; exact hx
theorem Digs.nil (B : Int) : Digs B [] := fun x hx => by cases hx
theorem Digs.getD {B : Int} (hB : 0 < B) {zs : List Int} (h : Digs B zs) (k : Nat) : 0 ≤ zs.getD k 0 ∧ zs.getD k 0 < B := by
  by_cases hk : k < zs.length
  · have : zs.getD k 0 = zs[k] := by simp [List.getD, hk]
    rw [this]; exact h _ (List.getElem_mem hk)
  · have : zs.getD k 0 = 0 := by simp [List.getD, List.getElem?_eq_none (Nat.le_of_not_lt hk)]
    rw [this]; exact ⟨Int.le_refl _, hB⟩

theorem val_ge {B : Int} (hB : 0 < B) {zs : List Int} (h : Digs B zs) (ht : Top zs) (hn : zs ≠ []) : B ^ (zs.length - 1) ≤ val B zs := by
  have hl : 0 < zs.length := by cases zs <;> simp_all
  rcases ht with rfl | ht
  · exact absurd rfl hn
  have h1 := val_take_succ B zs (zs.length - 1) (by omega)
  rw [show zs.length - 1 + 1 = zs.length by omega, List.take_length] at h1
  have h2 := val_nonneg hB (h.take (zs.length - 1))
  have h3 := h.getD hB (zs.length - 1)
  have h4 := pow_pos' hB (zs.length - 1)
  have h5 : B ^ (zs.length - 1) * 1 ≤ B ^ (zs.length - 1) * zs.getD (zs.length - 1) 0 := Int.mul_le_mul_of_nonneg_left (by omega) (by omega)
  omega

theorem val_inj_len {B : Int} (hB : 0 < B) : ∀ {zs ys : List Int}, zs.length = ys.length → Digs B zs → Digs B ys → val B zs = val B ys → zs = ys
  | [], [], _, _, _, _ => rfl
  | [], _ :: _, h, _, _, _ => by simp at h
  | _ :: _, [], h, _, _, _ => by simp at h
  | x :: r, y :: s, h, hz, hy, hv => by
    have h1 := hz x (List.mem_cons_self ..)
    have h2 := hy y (List.mem_cons_self ..)
    simp only [val] at hv
    have e : x = y := by
      have a1 : (x + B * val B r) % B = x := by rw [Int.add_mul_emod_self_left]; exact Int.emod_eq_of_lt h1.1 h1.2
      have a2 : (y + B * val B s) % B = y := by rw [Int.add_mul_emod_self_left]; exact Int.emod_eq_of_lt h2.1 h2.2
      rw [← a1, ← a2, hv]
    subst e
    have e2 : val B r = val B s := Int.eq_of_mul_eq_mul_left (a := B) (by omega) (by omega)
    rw [val_inj_len hB (by simpa using h) (fun y hy => hz y (List.mem_cons_of_mem _ hy)) (fun z hz' => hy z (List.mem_cons_of_mem _ hz')) e2]

theorem val_lt_of_len {B : Int} (hB : 0 < B) {zs ys : List Int} (hz : Digs B zs) (hy : Digs B ys) (ty : Top ys) (h : zs.length < ys.length) : val B zs < val B ys := by
  have h1 := val_lt hB hz
  have h2 := val_ge hB hy ty (by intro e; subst e; simp at h)
  have h3 := pow_mono hB (show zs.length ≤ ys.length - 1 by omega)
  omega

theorem val_inj {B : Int} (hB : 0 < B) {zs ys : List Int} (hz : Digs B zs) (hy : Digs B ys) (tz : Top zs) (ty : Top ys) (h : val B zs = val B ys) : zs = ys := by
  by_cases e : zs.length = ys.length
  · exact val_inj_len hB e hz hy h
  · rcases Nat.lt_or_gt_of_ne e with l | l
    · have := val_lt_of_len hB hz hy ty l; omega
    · have := val_lt_of_len hB hy hz tz l; omega

theorem len_le {B : Int} (hB : 0 < B) {zs : List Int} (hz : Digs B zs) (tz : Top zs) {k : Nat} (h : val B zs < B ^ k) : zs.length ≤ k := by
  by_cases hk : zs.length ≤ k
  · exact hk
  · have h2 := val_ge hB hz tz (by intro e; subst e; simp at hk)
    have h3 := pow_mono hB (show k ≤ zs.length - 1 by omega)
    omega
theorem val_lt_pow {B : Int} (hB : 0 < B) {zs : List Int} (hz : Digs B zs) {k : Nat} (h : zs.length ≤ k) : val B zs < B ^ k := by
  have h1 := val_lt hB hz
  have h3 := pow_mono hB h
  omega

theorem drop_eq_of {zs ys : List Int} {i : Nat} (hl : zs.length = ys.length) (h : ∀ j, i ≤ j → j < zs.length → zs.getD j 0 = ys.getD j 0) : zs.drop i = ys.drop i := by
  apply List.ext_getElem
  · simp [hl]
  · intro k h1 h2
    simp only [List.length_drop] at h1 h2
    have := h (i + k) (by omega) (by omega)
    simpa [List.getD, show i + k < zs.length by omega, show i + k < ys.length by omega] using this

theorem val_split (B : Int) (zs : List Int) (k : Nat) (h : k ≤ zs.length) : val B zs = val B (zs.take k) + B ^ k * val B (zs.drop k) := by
  have e : val B zs = val B (zs.take k ++ zs.drop k) := by rw [List.take_append_drop]
  rw [e, val_append, List.length_take, Nat.min_eq_left h]

theorem cmp_at {B : Int} (hB : 0 < B) {zs ys : List Int} {i : Nat} (hl : zs.length = ys.length) (hz : Digs B zs) (hy : Digs B ys) (hi : i < zs.length)
    (h : ∀ j, i < j → j < zs.length → zs.getD j 0 = ys.getD j 0) (hlt : zs.getD i 0 < ys.getD i 0) : val B zs < val B ys := by
  have e1 := val_split B zs (i + 1) (by omega)
  have e2 := val_split B ys (i + 1) (by omega)
  have e3 := val_take_succ B zs i hi
  have e4 := val_take_succ B ys i (by omega)
  have e5 := drop_eq_of (i := i + 1) hl (fun j h1 h2 => h j (by omega) h2)
  rw [e5] at e1
  have b1 := val_lt hB (hz.take i)
  have b2 := val_nonneg hB (hy.take i)
  rw [List.length_take, Nat.min_eq_left (by omega)] at b1
  have b3 : B ^ i * (zs.getD i 0 + 1) ≤ B ^ i * ys.getD i 0 := Int.mul_le_mul_of_nonneg_left (by omega) (by have := pow_pos' hB i; omega)
  rw [Int.mul_add] at b3
  omega

theorem val_zeros (B : Int) {zs : List Int} (h : ∀ x, x ∈ zs → x = 0) : val B zs = 0 := by
  induction zs with
  | nil => rfl
  | cons x r ih =>
    have h1 := h x (List.mem_cons_self ..)
    have h2 := ih (fun y hy => h y (List.mem_cons_of_mem _ hy))
    simp [val, h1, h2]

/-- k is where the noughts behind begin. -/
structure Trim (zs : List Int) (k : Nat) : Prop where
  le : k ≤ zs.length
  zero : ∀ j, k ≤ j → j < zs.length → zs.getD j 0 = 0
  top : k = 0 ∨ zs.getD (k - 1) 0 ≠ 0

theorem Trim.val {B : Int} {zs : List Int} {k : Nat} (h : Trim zs k) : val B (zs.take k) = val B zs := by
  rw [val_split B zs k h.le, val_zeros B (zs := zs.drop k)]
  · omega
  · intro x hx
    obtain ⟨i, hi, rfl⟩ := List.getElem_of_mem hx
    simp only [List.length_drop] at hi
    have := h.zero (k + i) (by omega) (by omega)
    simpa [List.getD, show k + i < zs.length by omega] using this
theorem Trim.Top {zs : List Int} {k : Nat} (h : Trim zs k) : Top (zs.take k) := by
  rcases h.top with rfl | ht
  · left; simp
  · by_cases hk : k = 0
    · subst hk; left; simp
    · right
      have hle := h.le
      rw [List.length_take, Nat.min_eq_left hle]
      simpa [List.getD, List.getElem?_take, show k - 1 < k by omega] using ht
end Go.Proofs.Ytaiikhbfnfcalaa

namespace Go.Proofs.Ytaiikhbfnfcalaa
open Go.RowKit

theorem Nums.take {w : World} {a : Option Addr} {len cap : Nat} {zs : List Int} (h : Nums w a len cap zs) {k : Nat} (hk : k ≤ len) : Nums w a k cap (zs.take k) := by
  have hl := h.hlen
  refine ⟨by simp; omega, Nat.le_trans hk h.hcap, h.hmax, fun hp => ?_, fun x hx => h.word x (List.mem_of_mem_take hx)⟩
  obtain ⟨b, off, ha, hc⟩ := h.cells (by omega)
  refine ⟨b, off, ha, fun i hi => ?_⟩
  rw [hc i (by omega)]
  simp [List.getD, hi]

theorem Nums.digs {w : World} {a : Option Addr} {len cap : Nat} {zs : List Int} (h : Nums w a len cap zs) : Digs 18446744073709551616 zs := h.word

end Go.Proofs.Ytaiikhbfnfcalaa

namespace Go.Proofs.Ytaiikhbfnfcalaa
open Go.RowKit

theorem cmpZ_lt {x y : Int} (h : x < y) : cmpZ x y = -1 := by simp [cmpZ, h]
theorem cmpZ_gt {x y : Int} (h : y < x) : cmpZ x y = 1 := by simp [cmpZ, h, show ¬ x < y by omega]
theorem cmpZ_eq (x : Int) : cmpZ x x = 0 := by simp [cmpZ]

theorem eq_of_all {zs ys : List Int} (hl : zs.length = ys.length) (h : ∀ j, 0 ≤ j → j < zs.length → zs.getD j 0 = ys.getD j 0) : zs = ys := by
  have := drop_eq_of (i := 0) hl h
  simpa using this

/-- What nat.Cmp tells. -/
def cmpN (zs ys : List Int) : Int := if rightB zs && rightB ys then cmpZ (val 18446744073709551616 zs) (val 18446744073709551616 ys) else 0

theorem right_top {zs : List Int} (h : rightB zs = true) : Top zs := by
  simp [rightB] at h
  rcases h.2 with h | h
  · exact .inl h
  · exact .inr (by simpa [List.getD] using h)
theorem right_len {zs : List Int} (h : rightB zs = true) : zs.length ≤ 64 := by
  simp [rightB] at h
  exact h.1
theorem right_mk {zs : List Int} (h : zs.length ≤ 64) (ht : Top zs) : rightB zs = true := by
  rcases ht with rfl | ht
  · rfl
  · simp [rightB, h]
    right; simpa [List.getD] using ht

end Go.Proofs.Ytaiikhbfnfcalaa

namespace Go.Proofs.Ytaiikhbfnfcalaa
open Go.RowKit

/-- None is above 70. -/
def fewB (ls : List Nat) : Bool := ls.all (fun n => decide (n ≤ 70))

theorem fewB_no {ls : List Nat} {k : Nat} (hk : k < ls.length) (h : 70 < ls.getD k 0) : fewB ls = false := by
  have e : ls.getD k 0 = ls[k] := by simp [List.getD, hk]
  rw [e] at h
  cases hf : fewB ls with
  | false => rfl
  | true =>
    have := List.all_eq_true.1 hf _ (List.getElem_mem hk)
    simp at this; omega
theorem fewB_yes {ls : List Nat} {k : Nat} (hk : ls.length ≤ k) (h : ∀ j, j < k → j < ls.length → ls.getD j 0 ≤ 70) : fewB ls = true := by
  refine List.all_eq_true.2 fun x hx => ?_
  obtain ⟨i, hi, rfl⟩ := List.getElem_of_mem hx
  have := h i (by omega) hi
  simpa [List.getD, hi] using this

end Go.Proofs.Ytaiikhbfnfcalaa

namespace Go.Proofs.Ytaiikhbfnfcalaa
open Go.RowKit

/-- None is above the bound. -/
def manyB (M : Nat) (ls : List Nat) : Bool := ls.all (fun n => decide (n ≤ M))

theorem manyB_no {M : Nat} {ls : List Nat} {k : Nat} (hk : k < ls.length) (h : M < ls.getD k 0) : manyB M ls = false := by
  have e : ls.getD k 0 = ls[k] := by simp [List.getD, hk]
  rw [e] at h
  cases hf : manyB M ls with
  | false => rfl
  | true =>
    have := List.all_eq_true.1 hf _ (List.getElem_mem hk)
    simp at this; omega
theorem manyB_yes {M : Nat} {ls : List Nat} {k : Nat} (hk : ls.length ≤ k) (h : ∀ j, j < k → j < ls.length → ls.getD j 0 ≤ M) : manyB M ls = true := by
  refine List.all_eq_true.2 fun x hx => ?_
  obtain ⟨i, hi, rfl⟩ := List.getElem_of_mem hx
  have := h i (by omega) hi
  simpa [List.getD, hi] using this

end Go.Proofs.Ytaiikhbfnfcalaa

namespace Go.Proofs.Ytaiikhbfnfcalaa
open Go.RowKit

/-- The slice value v, in a row of the call's own from block 'base' on, holds the words zs. -/
def Own (w : World) (base : Nat) (v : Value) (zs : List Int) : Prop := w.ownsRow base 61 1 v zs.length (zs.map (Value.int .u64))

theorem Own.nil (w : World) (base : Nat) : Own w base (.slice none 0 0) [] := World.ownsRow_nil _ _ _ _
theorem Own.alloc {w : World} {base : Nat} {v : Value} {zs : List Int} (h : Own w base v zs) (o : Obj) : Own (w.alloc o) base v zs := World.ownsRow.alloc h o
theorem Own.drewN {w : World} {base : Nat} {v : Value} {zs : List Int} (h : Own w base v zs) (n : Nat) : Own (w.drewN n) base v zs := h

theorem Own.nums {w : World} {base : Nat} {v : Value} {zs : List Int} (h : Own w base v zs) (hd : Digs 18446744073709551616 zs) : ∃ a cap, v = .slice a zs.length cap ∧ Nums w a zs.length cap zs := by
  obtain ⟨h1, h2⟩ := h
  rcases h2 with ⟨rfl, hn⟩ | ⟨g, cap, cur, rfl, hb, hg, hnc, hcm, hcs, htk⟩
  · have e : zs = [] := List.eq_nil_of_length_eq_zero hn
    subst e
    exact ⟨none, 0, rfl, Nums.nil _⟩
  · refine ⟨some ⟨g, 0, none⟩, cap, rfl, rfl, hnc, hcm, fun _ => ⟨g, 0, rfl, fun i hi => ?_⟩, hd⟩
    have hown : w.ownsRow base 61 1 (.slice (some ⟨g, 0, none⟩) zs.length cap) zs.length (zs.map (Value.int .u64)) := ⟨h1, .inr ⟨g, cap, cur, rfl, hb, hg, hnc, hcm, hcs, htk⟩⟩
    rw [Nat.zero_add, hown.cellAt i (by omega)]
    simp [List.getD, hi]

theorem Try.info25 : (Try.prog.info? 61).map (fun i => (i.zero, i.size, i.bytes)) = some (some (.int .u64 0), 1, 8) := by kernel_rfl

theorem wpList_app1 (w : World) {ops : Array Oper} {rest : List Oper} {o : Oper} {a : Act} {Q : Exit → Act → World → Prop} (hgd : o.guard = none) (s x : Operand) (t : TypeId)
    (ho : o.op = .call { callee := .builtin .append, args := #[s, x], argTypes := #[t, t] }) (ht : Try.prog.underlying t = some (.slice 61))
    (base : Nat) (v : Value) (zs : List Int) (hs : a.eval s = v) (hown : Own w base v zs) (ad : Addr) (y : Int) (hx : a.eval x = .slice (some ad) 1 1) (hc : w.cell? ad = some (.int .u64 y))
    (hlen : zs.length < 1000000) (w0 : World) (hbase : base ≤ w.heap.size) (hb : Below base w0 w)
    (h : ∀ v' w', Own w' base v' (zs ++ [y]) → Below base w0 w' → wpList Try.prog ops Q rest (a.put o.dst v') w') : wpList Try.prog ops Q (o :: rest) a w := by
  obtain ⟨i0, hi, hz0, hz1, hz2⟩ := info_parts Try.info25
  refine wpList_append_own w hgd s x t ho base 61 i0 (.int .u64 0) 1 8 ht hi hz0 hz1 hz2 rfl (by decide) v zs.length (zs.map (Value.int .u64)) hs hown ad 1 1 [.int .u64 y] hx rfl ?_ ?_ ?_ ?_ hbase ?_
  · intro j u hj
    match j, hj with
    | 0, hj =>
      simp at hj; subst hj
      obtain ⟨b, off, spot⟩ := ad
      have hspot : spot = none := World.cell?_spot hc
      subst hspot
      rw [Addr.add_lit]; exact hc
  · intro u hu; simp at hu; subst hu; rfl
  · unfold maxLen; omega
  · omega
  · intro v' w' h2 h3 _
    refine h v' w' ?_ (hb.grown h3 hbase (fun k hk => (World.ownsRow.lt hown k hk).1))
    have e : (zs ++ [y]).length = zs.length + 1 := by simp
    unfold Own
    rw [e, List.map_append]
    exact h2

theorem Own.numsN {w : World} {base : Nat} {v : Value} {zs : List Int} (h : Own w base v zs) (hd : Digs 18446744073709551616 zs) : ∃ a n cap, v = .slice a n cap ∧ Nums w a n cap zs := by
  obtain ⟨a, cap, e, hn⟩ := h.nums hd
  exact ⟨a, _, cap, e, hn⟩

theorem Own.numsZ {w : World} {base : Nat} {v : Value} {zs : List Int} (h : Own w base v zs) (hd : Digs 18446744073709551616 zs) : ∃ a n cap, v = .slice a n cap ∧ Nums w a n cap zs ∧ (a = none → cap = 0) := by
  obtain ⟨a, cap, e, hn⟩ := h.nums hd
  refine ⟨a, _, cap, e, hn, fun ha => ?_⟩
  rcases h.2 with ⟨rfl, _⟩ | ⟨g, cap', cur, rfl, _⟩
  · simp only [Value.slice.injEq] at e; omega
  · subst ha; simp at e

theorem wpList_appN (w : World) {ops : Array Oper} {rest : List Oper} {o : Oper} {a : Act} {Q : Exit → Act → World → Prop} (hgd : o.guard = none) (s x : Operand) (t : TypeId)
    (ho : o.op = .call { callee := .builtin .append, args := #[s, x], argTypes := #[t, t] }) (ht : Try.prog.underlying t = some (.slice 61))
    (base : Nat) (v : Value) (zs : List Int) (hs : a.eval s = v) (hown : Own w base v zs) (sa : Option Addr) (m c : Nat) (ys : List Int) (hx : a.eval x = .slice sa m c) (hy : Nums w sa m c ys) (hnil : sa = none → c = 0)
    (hlen : zs.length + m < 1000000) (w0 : World) (hbase : base ≤ w.heap.size) (hb : Below base w0 w)
    (h : ∀ v' w', Own w' base v' (zs ++ ys) → Below base w0 w' → wpList Try.prog ops Q rest (a.put o.dst v') w') : wpList Try.prog ops Q (o :: rest) a w := by
  obtain ⟨i0, hi, hz0, hz1, hz2⟩ := info_parts Try.info25
  have hl := hy.hlen
  cases sa with
  | none =>
    have hm : m = 0 := by
      rcases Nat.eq_zero_or_pos m with h0 | h0
      · exact h0
      · obtain ⟨b, off, e, _⟩ := hy.cells h0; cases e
    subst hm
    obtain rfl := hnil rfl
    have e : ys = [] := List.eq_nil_of_length_eq_zero hl
    subst e
    refine wpList_plain hgd fun K hK' => ?_
    have hrun := run_append_owned_none (P := Try.prog) w base t o.type 61 i0 1 ht hi _ _ _ hown
    unfold Oper.wp
    simp [execOp, ho, resolve, invoke, builtin, hs, hx, hrun, Result.andThen]
    exact hK' _ _ (h v w (by simpa using hown) hb)
  | some ad =>
    refine wpList_append_own w hgd s x t ho base 61 i0 (.int .u64 0) 1 8 ht hi hz0 hz1 hz2 rfl (by decide) v zs.length (zs.map (Value.int .u64)) hs hown ad m c (ys.map (Value.int .u64)) hx (by simp [hl]) ?_ (ints_oneCell _ _) ?_ ?_ hbase ?_
    · intro j u hj
      have hjm : j < m := by have := (List.getElem?_eq_some_iff.1 hj).1; simp at this; omega
      obtain ⟨b, off, e, hc⟩ := hy.cells (by omega)
      cases e
      rw [Addr.add_lit, hc j hjm]
      have : (ys.map (Value.int .u64))[j]? = some (.int .u64 (ys.getD j 0)) := by simp [List.getD, show j < ys.length by omega]
      rw [this] at hj
      exact hj
    · unfold maxLen; omega
    · omega
    · intro v' w' h2 h3 _
      refine h v' w' ?_ (hb.grown h3 hbase (fun k hk => (World.ownsRow.lt hown k hk).1))
      have e : (zs ++ ys).length = zs.length + m := by simp [hl]
      unfold Own
      rw [e, List.map_append]
      exact h2

theorem run_append_nil {P : Program} {w : World} (base : Nat) (t ty e : TypeId) (i : TypeInfo) (size : Nat) (ht : P.underlying t = some (.slice e)) (hi : P.info? e = some i)
    (v : Value) (n : Nat) (xs : List Value) (hown : w.ownsRow base e size v n xs) (c : Nat) : (Builtin.append_ #[t, t] ty #[v, .slice none 0 c]).run P w = .ok v w := by
  rcases hown.2 with ⟨rfl, rfl⟩ | ⟨g, cap, cur, rfl, _, _, hnc, _⟩
  · simp [Builtin.append_, run_underlying ht, sizeOf, typeInfo, hi, Builtin.lenOf, Builtin.firstCells]
  · simp [Builtin.append_, run_underlying ht, sizeOf, typeInfo, hi, Builtin.lenOf, Builtin.firstCells, hnc, storeCells]

/-- append of numbers to words of the call's own, whatever the numbers' slice is. -/
theorem wpList_appM (w : World) {ops : Array Oper} {rest : List Oper} {o : Oper} {a : Act} {Q : Exit → Act → World → Prop} (hgd : o.guard = none) (s x : Operand) (t : TypeId)
    (ho : o.op = .call { callee := .builtin .append, args := #[s, x], argTypes := #[t, t] }) (ht : Try.prog.underlying t = some (.slice 61))
    (base : Nat) (v : Value) (zs : List Int) (hs : a.eval s = v) (hown : Own w base v zs) (sa : Option Addr) (m c : Nat) (ys : List Int) (hx : a.eval x = .slice sa m c) (hy : Nums w sa m c ys)
    (hlen : zs.length + m < 1000000) (w0 : World) (hbase : base ≤ w.heap.size) (hb : Below base w0 w)
    (h : ∀ v' w', Own w' base v' (zs ++ ys) → Below base w0 w' → wpList Try.prog ops Q rest (a.put o.dst v') w') : wpList Try.prog ops Q (o :: rest) a w := by
  cases sa with
  | some ad => exact wpList_appN w hgd s x t ho ht base v zs hs hown (some ad) m c ys hx hy (fun e => by cases e) hlen w0 hbase hb h
  | none =>
    obtain ⟨i0, hi, hz0, hz1, hz2⟩ := info_parts Try.info25
    have hl := hy.hlen
    have hm : m = 0 := by
      rcases Nat.eq_zero_or_pos m with h0 | h0
      · exact h0
      · obtain ⟨b, off, e, _⟩ := hy.cells h0; cases e
    subst hm
    have e : ys = [] := List.eq_nil_of_length_eq_zero hl
    subst e
    refine wpList_plain hgd fun K hK' => ?_
    have hrun := run_append_nil (P := Try.prog) (w := w) base t o.type 61 i0 1 ht hi _ _ _ hown c
    unfold Oper.wp
    simp [execOp, ho, resolve, invoke, builtin, hs, hx, hrun, Result.andThen]
    exact hK' _ _ (h v w (by simpa using hown) hb)

theorem Own.empty (w : World) : Own (w.alloc (.cells #[] 61)) w.heap.size (.slice (some ⟨w.heap.size, 0, none⟩) 0 0) [] :=
  World.ownsRow_lit w #[] 0 (Nat.le_refl _) (Nat.zero_le _) rfl

end Go.Proofs.Ytaiikhbfnfcalaa

namespace Go.Proofs.Ytaiikhbfnfcalaa
open Go.RowKit

theorem Digs.wide {zs : List Int} (h : Digs 65536 zs) : Digs 18446744073709551616 zs := fun x hx => by have := h x hx; omega

theorem in_step {ds : List Int} {k j : Nat} {y R : Int} (hj : j < 4) (hl : ds.length = 4 * k + j) (hd : Digs 65536 ds) (hv : val 65536 ds + 65536 ^ (4 * k + j) * y = R) (hy : 0 ≤ y) (hlt : y < 65536 ^ (4 - j)) :
    (ds ++ [y % 65536]).length = 4 * k + (j + 1) ∧ Digs 65536 (ds ++ [y % 65536]) ∧ val 65536 (ds ++ [y % 65536]) + 65536 ^ (4 * k + (j + 1)) * (y / 65536) = R ∧ 0 ≤ y / 65536 ∧ y / 65536 < 65536 ^ (4 - (j + 1)) := by
  refine ⟨by simp [hl]; omega, hd.snoc ⟨by omega, by omega⟩, ?_, by omega, ?_⟩
  · rw [val_snoc, hl, show 4 * k + (j + 1) = (4 * k + j) + 1 by omega, Int.pow_succ, Int.mul_assoc]
    have e : y = 65536 * (y / 65536) + y % 65536 := by omega
    generalize (65536 : Int) ^ (4 * k + j) = P at hv ⊢
    rw [← hv]
    have e2 : P * y = P * (65536 * (y / 65536)) + P * (y % 65536) := by rw [← Int.mul_add, ← e]
    omega
  · have e : (65536 : Int) ^ (4 - j) = 65536 ^ (4 - (j + 1)) * 65536 := by rw [← Int.pow_succ]; congr 1; omega
    rw [e] at hlt
    generalize (65536 : Int) ^ (4 - (j + 1)) = P at hlt ⊢
    omega

theorem in_end {ds zs : List Int} {k : Nat} {y : Int} (hk : k < zs.length) (hv : val 65536 ds + 65536 ^ (4 * k + 4) * y = val 18446744073709551616 (zs.take k) + 65536 ^ (4 * k) * zs.getD k 0) (hy : 0 ≤ y) (hlt : y < 65536 ^ (4 - 4)) :
    val 65536 ds = val 18446744073709551616 (zs.take (k + 1)) := by
  have e : y = 0 := by simp at hlt; omega
  subst e
  rw [val_take_succ _ _ _ hk, show (18446744073709551616 : Int) = 65536 ^ 4 by decide, ← Int.pow_mul]
  rw [show (18446744073709551616 : Int) = 65536 ^ 4 by decide] at hv
  omega

end Go.Proofs.Ytaiikhbfnfcalaa

namespace Go.Proofs.Ytaiikhbfnfcalaa
open Go.RowKit

end Go.Proofs.Ytaiikhbfnfcalaa

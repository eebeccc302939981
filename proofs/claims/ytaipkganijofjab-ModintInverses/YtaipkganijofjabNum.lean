/-
  Plain arithmetic of digit lists: values, bounds, and that a number has one list without noughts behind.
-/
import Derived.Test.YtaipkganijofjabSame
namespace Go.Proofs.Ytaipkganijofjab
open Go.RowKit

/-- The value of digits of base B, the lowest first. -/
def val (B : Int) : List Int → Int
  | [] => 0
  | x :: r => x + B * val B r

/-- Each is a digit of base B. -/
def Digs (B : Int) (zs : List Int) : Prop := ∀ x, x ∈ zs → 0 ≤ x ∧ x < B

/-- The last one is not 0. -/
def Top (zs : List Int) : Prop := zs = [] ∨ zs.getD (zs.length - 1) 0 ≠ 0

theorem val_nil (B : Int) : val B [] = 0 := rfl
theorem val_cons (B x : Int) (r : List Int) : val B (x :: r) = x + B * val B r := rfl

theorem val_append (B : Int) (xs ys : List Int) : val B (xs ++ ys) = val B xs + B ^ xs.length * val B ys := by
  induction xs with
  | nil => simp [val]
  | cons x r ih =>
    have e : B ^ (r.length + 1) = B * B ^ r.length := by rw [Int.pow_succ, Int.mul_comm]
    simp only [List.cons_append, val, ih, List.length_cons, e, Int.mul_add, Int.mul_assoc]
    omega

theorem val_snoc (B : Int) (xs : List Int) (x : Int) : val B (xs ++ [x]) = val B xs + B ^ xs.length * x := by
  rw [val_append]; simp [val]

theorem take_snoc (zs : List Int) (k : Nat) (h : k < zs.length) : zs.take (k + 1) = zs.take k ++ [zs.getD k 0] := by
  rw [List.take_succ_eq_append_getElem h]; simp [List.getD, h]

theorem val_take_succ (B : Int) (zs : List Int) (k : Nat) (h : k < zs.length) : val B (zs.take (k + 1)) = val B (zs.take k) + B ^ k * zs.getD k 0 := by
  rw [take_snoc zs k h, val_snoc]; simp [Nat.min_eq_left (Nat.le_of_lt h)]

theorem pow_pos' {B : Int} (hB : 0 < B) (k : Nat) : 0 < B ^ k := by
  induction k with
  | zero => simp
  | succ k ih => rw [Int.pow_succ]; exact Int.mul_pos ih hB

theorem pow_mono {B : Int} (hB : 0 < B) {i j : Nat} (h : i ≤ j) : B ^ i ≤ B ^ j := by
  induction j with
  | zero => obtain rfl : i = 0 := by omega
            exact Int.le_refl _
  | succ j ih =>
    by_cases e : i = j + 1
    · subst e; exact Int.le_refl _
    · have h1 := ih (by omega)
      have h2 := pow_pos' hB j
      have h3 : B ^ j * 1 ≤ B ^ j * B := Int.mul_le_mul_of_nonneg_left (by omega) (by omega)
      rw [Int.pow_succ]; omega

theorem val_nonneg {B : Int} (hB : 0 < B) {zs : List Int} (h : Digs B zs) : 0 ≤ val B zs := by
  induction zs with
  | nil => simp [val]
  | cons x r ih =>
    have h1 := h x (List.mem_cons_self ..)
    have h2 := ih (fun y hy => h y (List.mem_cons_of_mem _ hy))
    have h3 : 0 ≤ B * val B r := Int.mul_nonneg (by omega) h2
    simp only [val]; omega

theorem val_lt {B : Int} (hB : 0 < B) {zs : List Int} (h : Digs B zs) : val B zs < B ^ zs.length := by
  induction zs with
  | nil => simp [val]
  | cons x r ih =>
    have h1 := h x (List.mem_cons_self ..)
    have h2 := ih (fun y hy => h y (List.mem_cons_of_mem _ hy))
    have h3 : B * (val B r + 1) ≤ B * B ^ r.length := Int.mul_le_mul_of_nonneg_left (by omega) (by omega)
    simp only [val, List.length_cons, Int.pow_succ]
    rw [Int.mul_comm (B ^ r.length) B]
    rw [Int.mul_add] at h3
    omega

theorem Digs.take {B : Int} {zs : List Int} (h : Digs B zs) (k : Nat) : Digs B (zs.take k) := fun x hx => h x (List.mem_of_mem_take hx)
theorem Digs.drop {B : Int} {zs : List Int} (h : Digs B zs) (k : Nat) : Digs B (zs.drop k) := fun x hx => h x (List.mem_of_mem_drop hx)
theorem Digs.snoc {B : Int} {zs : List Int} (h : Digs B zs) {x : Int} (hx : 0 ≤ x ∧ x < B) : Digs B (zs ++ [x]) := by
  intro y hy
  rcases List.mem_append.1 hy with hy | hy
  · exact h y hy
  · simp at hy; subst hy; exact hx
theorem Digs.nil (B : Int) : Digs B [] := fun x hx => by cases hx
theorem Digs.getD {B : Int} (hB : 0 < B) {zs : List Int} (h : Digs B zs) (k : Nat) : 0 ≤ zs.getD k 0 ∧ zs.getD k 0 < B := by
  by_cases hk : k < zs.length
  · have : zs.getD k 0 = zs[k] := by simp [List.getD, hk]
    rw [this]; exact h _ (List.getElem_mem hk)
  · have : zs.getD k 0 = 0 := by simp [List.getD, List.getElem?_eq_none (Nat.le_of_not_lt hk)]
    rw [this]; exact ⟨Int.le_refl _, hB⟩

theorem val_ge {B : Int} (hB : 0 < B) {zs : List Int} (h : Digs B zs) (ht : Top zs) (hn : zs ≠ []) : B ^ (zs.length - 1) ≤ val B zs := by
  have hl : 0 < zs.length := by cases zs <;> simp_all
  rcases ht with rfl | ht
  · exact absurd rfl hn
  have h1 := val_take_succ B zs (zs.length - 1) (by omega)
  rw [show zs.length - 1 + 1 = zs.length by omega, List.take_length] at h1
  have h2 := val_nonneg hB (h.take (zs.length - 1))
  have h3 := h.getD hB (zs.length - 1)
  have h4 := pow_pos' hB (zs.length - 1)
  have h5 : B ^ (zs.length - 1) * 1 ≤ B ^ (zs.length - 1) * zs.getD (zs.length - 1) 0 := Int.mul_le_mul_of_nonneg_left (by omega) (by omega)
  omega

theorem val_inj_len {B : Int} (hB : 0 < B) : ∀ {zs ys : List Int}, zs.length = ys.length → Digs B zs → Digs B ys → val B zs = val B ys → zs = ys
  | [], [], _, _, _, _ => rfl
  | [], _ :: _, h, _, _, _ => by simp at h
  | _ :: _, [], h, _, _, _ => by simp at h
  | x :: r, y :: s, h, hz, hy, hv => by
    have h1 := hz x (List.mem_cons_self ..)
    have h2 := hy y (List.mem_cons_self ..)
    simp only [val] at hv
    have e : x = y := by
      have a1 : (x + B * val B r) % B = x := by rw [Int.add_mul_emod_self_left]; exact Int.emod_eq_of_lt h1.1 h1.2
      have a2 : (y + B * val B s) % B = y := by rw [Int.add_mul_emod_self_left]; exact Int.emod_eq_of_lt h2.1 h2.2
      rw [← a1, ← a2, hv]
    subst e
    have e2 : val B r = val B s := Int.eq_of_mul_eq_mul_left (a := B) (by omega) (by omega)
    rw [val_inj_len hB (by simpa using h) (fun y hy => hz y (List.mem_cons_of_mem _ hy)) (fun z hz' => hy z (List.mem_cons_of_mem _ hz')) e2]

theorem val_lt_of_len {B : Int} (hB : 0 < B) {zs ys : List Int} (hz : Digs B zs) (hy : Digs B ys) (ty : Top ys) (h : zs.length < ys.length) : val B zs < val B ys := by
  have h1 := val_lt hB hz
  have h2 := val_ge hB hy ty (by intro e; subst e; simp at h)
  have h3 := pow_mono hB (show zs.length ≤ ys.length - 1 by omega)
  omega

theorem val_inj {B : Int} (hB : 0 < B) {zs ys : List Int} (hz : Digs B zs) (hy : Digs B ys) (tz : Top zs) (ty : Top ys) (h : val B zs = val B ys) : zs = ys := by
  by_cases e : zs.length = ys.length
  · exact val_inj_len hB e hz hy h
  · rcases Nat.lt_or_gt_of_ne e with l | l
    · have := val_lt_of_len hB hz hy ty l; omega
    · have := val_lt_of_len hB hy hz tz l; omega

theorem len_le {B : Int} (hB : 0 < B) {zs : List Int} (hz : Digs B zs) (tz : Top zs) {k : Nat} (h : val B zs < B ^ k) : zs.length ≤ k := by
  by_cases hk : zs.length ≤ k
  · exact hk
  · have h2 := val_ge hB hz tz (by intro e; subst e; simp at hk)
    have h3 := pow_mono hB (show k ≤ zs.length - 1 by omega)
    omega
theorem val_lt_pow {B : Int} (hB : 0 < B) {zs : List Int} (hz : Digs B zs) {k : Nat} (h : zs.length ≤ k) : val B zs < B ^ k := by
  have h1 := val_lt hB hz
  have h3 := pow_mono hB h
  omega

theorem drop_eq_of {zs ys : List Int} {i : Nat} (hl : zs.length = ys.length) (h : ∀ j, i ≤ j → j < zs.length → zs.getD j 0 = ys.getD j 0) : zs.drop i = ys.drop i := by
  apply List.ext_getElem
  · simp [hl]
  · intro k h1 h2
    simp only [List.length_drop] at h1 h2
    have := h (i + k) (by omega) (by omega)
    simpa [List.getD, show i + k < zs.length by omega, show i + k < ys.length by omega] using this

theorem val_split (B : Int) (zs : List Int) (k : Nat) (h : k ≤ zs.length) : val B zs = val B (zs.take k) + B ^ k * val B (zs.drop k) := by
  have e : val B zs = val B (zs.take k ++ zs.drop k) := by rw [List.take_append_drop]
  rw [e, val_append, List.length_take, Nat.min_eq_left h]

theorem cmp_at {B : Int} (hB : 0 < B) {zs ys : List Int} {i : Nat} (hl : zs.length = ys.length) (hz : Digs B zs) (hy : Digs B ys) (hi : i < zs.length)
    (h : ∀ j, i < j → j < zs.length → zs.getD j 0 = ys.getD j 0) (hlt : zs.getD i 0 < ys.getD i 0) : val B zs < val B ys := by
  have e1 := val_split B zs (i + 1) (by omega)
  have e2 := val_split B ys (i + 1) (by omega)
  have e3 := val_take_succ B zs i hi
  have e4 := val_take_succ B ys i (by omega)
  have e5 := drop_eq_of (i := i + 1) hl (fun j h1 h2 => h j (by omega) h2)
  rw [e5] at e1
  have b1 := val_lt hB (hz.take i)
  have b2 := val_nonneg hB (hy.take i)
  rw [List.length_take, Nat.min_eq_left (by omega)] at b1
  have b3 : B ^ i * (zs.getD i 0 + 1) ≤ B ^ i * ys.getD i 0 := Int.mul_le_mul_of_nonneg_left (by omega) (by have := pow_pos' hB i; omega)
  rw [Int.mul_add] at b3
  omega

theorem val_zeros (B : Int) {zs : List Int} (h : ∀ x, x ∈ zs → x = 0) : val B zs = 0 := by
  induction zs with
  | nil => rfl
  | cons x r ih =>
    have h1 := h x (List.mem_cons_self ..)
    have h2 := ih (fun y hy => h y (List.mem_cons_of_mem _ hy))
    simp [val, h1, h2]

/-- k is where the noughts behind begin. -/
structure Trim (zs : List Int) (k : Nat) : Prop where
  le : k ≤ zs.length
  zero : ∀ j, k ≤ j → j < zs.length → zs.getD j 0 = 0
  top : k = 0 ∨ zs.getD (k - 1) 0 ≠ 0

theorem Trim.val {B : Int} {zs : List Int} {k : Nat} (h : Trim zs k) : val B (zs.take k) = val B zs := by
  rw [val_split B zs k h.le, val_zeros B (zs := zs.drop k)]
  · omega
  · intro x hx
    obtain ⟨i, hi, rfl⟩ := List.getElem_of_mem hx
    simp only [List.length_drop] at hi
    have := h.zero (k + i) (by omega) (by omega)
    simpa [List.getD, show k + i < zs.length by omega] using this
theorem Trim.Top {zs : List Int} {k : Nat} (h : Trim zs k) : Top (zs.take k) := by
  rcases h.top with rfl | ht
  · left; simp
  · by_cases hk : k = 0
    · subst hk; left; simp
    · right
      have hle := h.le
      rw [List.length_take, Nat.min_eq_left hle]
      simpa [List.getD, List.getElem?_take, show k - 1 < k by omega] using ht
end Go.Proofs.Ytaipkganijofjab

/-
  What is told of sums, differences, products and quotients of whole numbers.
-/
import Derived.Test.YtaipkganijofjabWholeB
import Derived.Test.YtaipkganijofjabDiv
namespace Go.Proofs.Ytaipkganijofjab
open Go.RowKit

/-- What is told of the whole number v: its size's limbs and its sign, or the error 4 where they are more than 64. -/
def ResW (v : Int) (neg : Bool) (ls : List Int) (err : Int) : Prop := Res (sz v) ls err ∧ neg = (decide (err = 0) && decide (v < 0))

theorem ResW.unique {v : Int} {p q : Bool} {ls ks : List Int} {e f : Int} (h : ResW v p ls e) (h' : ResW v q ks f) : p = q ∧ ls = ks ∧ e = f := by
  obtain ⟨h1, h2⟩ := h
  obtain ⟨h3, h4⟩ := h'
  obtain ⟨rfl, rfl⟩ := h1.unique h3
  exact ⟨h2.trans h4.symm, rfl, rfl⟩

theorem Res.right {u : Int} {ls : List Int} {e : Int} (h : Res u ls e) : rightB ls = true := by
  rcases h with ⟨_, _, ht, hl, _⟩ | ⟨_, rfl, _⟩
  · exact right_mk hl ht
  · rfl

theorem val_zero_iff {ls : List Int} (hd : Digs 18446744073709551616 ls) (ht : Top ls) : 0 < val 18446744073709551616 ls ↔ 0 < ls.length := by
  constructor
  · intro h
    cases ls with
    | nil => simp [val] at h
    | cons x r => simp
  · intro h
    have h1 := val_ge (B := 18446744073709551616) (by decide) hd ht (by intro e; subst e; simp at h)
    have h2 := pow_pos' (B := 18446744073709551616) (by decide) (ls.length - 1)
    omega

/-- A size with a sign: 0 has none. -/
theorem Res.signed {u : Int} {ls : List Int} {e : Int} (h : Res u ls e) (n : Bool) : ResW (if n then -u else u) (n && decide (0 < ls.length)) ls e := by
  have hu : 0 ≤ u := by
    rcases h with ⟨_, hd, _, _, rfl⟩ | ⟨_, _, zs, hd, _, rfl, _⟩
    · exact val_nonneg (by decide) hd
    · exact val_nonneg (by decide) hd
  have es : sz (if n then -u else u) = u := by
    unfold sz
    cases n
    · simp; omega
    · simp; omega
  refine ⟨by rw [es]; exact h, ?_⟩
  rcases h with ⟨rfl, hd, ht, _, hv⟩ | ⟨rfl, rfl, _⟩
  · have hz := val_zero_iff hd ht
    rw [hv] at hz
    cases n
    · simp; omega
    · simp only [Bool.true_and, if_true, decide_true]
      by_cases h0 : 0 < u
      · rw [decide_eq_true (hz.1 h0), decide_eq_true (by omega)]
      · rw [decide_eq_false (mt hz.2 h0), decide_eq_false (by omega)]
  · simp

theorem Res.from {u : Int} {ls : List Int} {e : Int} (h : Res u ls e) (n : Bool) : fromL ls = ls ∧ fromN n ls = (n && decide (0 < ls.length)) := by
  have hr := h.right
  have e1 : fromL ls = ls := by simp [fromL, hr]
  exact ⟨e1, by simp [fromN, e1]⟩

/-- What is told of two whole numbers: the error 1 where one of them may not be. -/
def Res2I (n : Bool) (zs : List Int) (m : Bool) (ys : List Int) (v : Int) (neg : Bool) (ls : List Int) (err : Int) : Prop :=
  if rightI n zs && rightI m ys then ResW v neg ls err else err = 1 ∧ neg = false ∧ ls = []

theorem Res2I.unique {n : Bool} {zs : List Int} {m : Bool} {ys : List Int} {v : Int} {p q : Bool} {ls ks : List Int} {e f : Int} (h : Res2I n zs m ys v p ls e) (h' : Res2I n zs m ys v q ks f) : p = q ∧ ls = ks ∧ e = f := by
  unfold Res2I at h h'
  split at h
  · rename_i hc
    rw [if_pos hc] at h'
    exact h.unique h'
  · rename_i hc
    rw [if_neg hc] at h'
    obtain ⟨rfl, rfl, rfl⟩ := h
    obtain ⟨rfl, rfl, rfl⟩ := h'
    exact ⟨rfl, rfl, rfl⟩

theorem Res2I.ok {n : Bool} {zs : List Int} {m : Bool} {ys : List Int} {v : Int} {p : Bool} {ls : List Int} {e : Int} (hn : rightI n zs = true) (hm : rightI m ys = true) (h : ResW v p ls e) : Res2I n zs m ys v p ls e := by
  unfold Res2I; rw [hn, hm]; exact h
theorem Res2I.got {n : Bool} {zs : List Int} {m : Bool} {ys : List Int} {v : Int} {p : Bool} {ls : List Int} {e : Int} (hn : rightI n zs = true) (hm : rightI m ys = true) (h : Res2I n zs m ys v p ls e) : ResW v p ls e := by
  unfold Res2I at h; rw [hn, hm] at h; exact h
theorem Res2I.bad {n : Bool} {zs : List Int} {m : Bool} {ys : List Int} (v : Int) (h : (rightI n zs && rightI m ys) = false) : Res2I n zs m ys v false [] 1 := by
  unfold Res2I; rw [h]; exact ⟨rfl, rfl, rfl⟩

theorem Res2.got {zs ys : List Int} {v : Int} {ls : List Int} {e : Int} (hn : rightB zs = true) (hm : rightB ys = true) (h : Res2 zs ys v ls e) : Res v ls e := by
  unfold Res2 at h; rw [hn, hm] at h; exact h

theorem val_64 {zs : List Int} (hd : Digs 18446744073709551616 zs) (hr : rightB zs = true) : val 18446744073709551616 zs < 18446744073709551616 ^ 64 := val_lt_pow (by decide) hd (right_len hr)

/-- The difference of two sizes, the first not below the second. -/
theorem ResSub.got {zs ys ls : List Int} {e : Int} (hz : Digs 18446744073709551616 zs) (hy : Digs 18446744073709551616 ys) (hn : rightB zs = true) (hm : rightB ys = true) (hle : val 18446744073709551616 ys ≤ val 18446744073709551616 zs) (h : ResSub zs ys ls e) :
    e = 0 ∧ Res (val 18446744073709551616 zs - val 18446744073709551616 ys) ls 0 := by
  unfold ResSub at h
  rw [hn, hm, if_pos (by rfl), if_neg (by omega)] at h
  have h1 := val_64 hz hn
  have h2 := val_nonneg (B := 18446744073709551616) (by decide) hy
  obtain ⟨rfl, _⟩ := res_fits h (by omega)
  exact ⟨rfl, h⟩

theorem cmpN_lt {zs ys : List Int} (hn : rightB zs = true) (hm : rightB ys = true) : cmpN zs ys < 0 ↔ val 18446744073709551616 zs < val 18446744073709551616 ys := by
  unfold cmpN
  rw [hn, hm, if_pos (by rfl)]
  unfold cmpZ
  split
  · constructor <;> intro <;> first | assumption | decide
  · split
    · constructor <;> intro <;> first | omega | contradiction
    · constructor <;> intro <;> first | omega | contradiction

/-- The sum of two whole numbers of which one is below 0 and the other is not. -/
theorem apart_ge {n m : Bool} {zs ys : List Int} (hne : n ≠ m) {ls : List Int} (h : Res (val 18446744073709551616 zs - val 18446744073709551616 ys) ls 0) : ResW (iv n zs + iv m ys) (n && decide (0 < ls.length)) ls 0 := by
  have := h.signed n
  have e : iv n zs + iv m ys = if n then -(val 18446744073709551616 zs - val 18446744073709551616 ys) else val 18446744073709551616 zs - val 18446744073709551616 ys := by
    unfold iv
    cases n <;> cases m <;> simp_all <;> omega
  rw [e]; exact this

theorem add_same {n : Bool} {zs ys : List Int} {ls : List Int} {e : Int} (h : Res (val 18446744073709551616 zs + val 18446744073709551616 ys) ls e) : ResW (iv n zs + iv n ys) (n && decide (0 < ls.length)) ls e := by
  have := h.signed n
  have e : iv n zs + iv n ys = if n then -(val 18446744073709551616 zs + val 18446744073709551616 ys) else val 18446744073709551616 zs + val 18446744073709551616 ys := by
    unfold iv
    cases n <;> simp <;> omega
  rw [e]; exact this

theorem mul_sign {n m : Bool} {zs ys : List Int} {ls : List Int} {e : Int} (h : Res (val 18446744073709551616 zs * val 18446744073709551616 ys) ls e) : ResW (iv n zs * iv m ys) (decide (n ≠ m) && decide (0 < ls.length)) ls e := by
  have := h.signed (decide (n ≠ m))
  have e : iv n zs * iv m ys = if decide (n ≠ m) then -(val 18446744073709551616 zs * val 18446744073709551616 ys) else val 18446744073709551616 zs * val 18446744073709551616 ys := by
    unfold iv
    cases n <;> cases m <;> simp [Int.neg_mul, Int.mul_neg]
  rw [e]; exact this

theorem neg_iv {n : Bool} {zs : List Int} (hr : rightI n zs = true) : iv (negN n zs) (negL n zs) = - iv n zs ∧ rightI (negN n zs) (negL n zs) = true := by
  have hb := rightI_B hr
  have e1 : negL n zs = zs := by simp [negL, hr]
  have e2 : negN n zs = (!n && decide (0 < zs.length)) := by simp [negN, hr]
  rw [e1, e2]
  by_cases h0 : zs.length = 0
  · have : zs = [] := List.eq_nil_of_length_eq_zero h0
    subst this
    cases n <;> simp [iv, val, rightI, hb]
  · cases n
    · simp [iv, rightI, hb, show 0 < zs.length by omega, h0]
    · simp [iv, rightI, hb]

theorem sub_of_add {n m : Bool} {zs ys : List Int} (hr : rightI m ys = true) {q : Bool} {ls : List Int} {e : Int} (h : Res2I n zs (negN m ys) (negL m ys) (iv n zs + iv (negN m ys) (negL m ys)) q ls e) : Res2I n zs m ys (iv n zs - iv m ys) q ls e := by
  obtain ⟨h1, h2⟩ := neg_iv hr
  rw [h1, ← Int.sub_eq_add_neg] at h
  unfold Res2I at h ⊢
  rw [h2] at h
  rw [hr]
  exact h
end Go.Proofs.Ytaipkganijofjab

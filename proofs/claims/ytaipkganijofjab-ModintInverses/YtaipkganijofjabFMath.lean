/-
  What is told of the quotient, rounded down, and the rest of two whole numbers.
-/
import Derived.Test.YtaipkganijofjabWMath
namespace Go.Proofs.Ytaipkganijofjab
open Go.RowKit

/-- What is told of a quotient, rounded down, and a rest. -/
def ResFloor (n : Bool) (zs : List Int) (m : Bool) (ys : List Int) (p : Bool) (qs : List Int) (r : Bool) (rs : List Int) (err : Int) : Prop :=
  if rightI n zs && rightI m ys then
    (if ys.length = 0 then err = 3 ∧ (p = false ∧ qs = []) ∧ r = false ∧ rs = [] else if m then err = 1 ∧ (p = false ∧ qs = []) ∧ r = false ∧ rs = []
    else err = 0 ∧ ResW (iv n zs / val 18446744073709551616 ys) p qs 0 ∧ ResW (iv n zs % val 18446744073709551616 ys) r rs 0)
  else err = 1 ∧ (p = false ∧ qs = []) ∧ r = false ∧ rs = []

theorem ResFloor.unique {n : Bool} {zs : List Int} {m : Bool} {ys : List Int} {p p' : Bool} {qs qs' : List Int} {r r' : Bool} {rs rs' : List Int} {e e' : Int} (h : ResFloor n zs m ys p qs r rs e) (h' : ResFloor n zs m ys p' qs' r' rs' e') :
    (p = p' ∧ qs = qs') ∧ (r = r' ∧ rs = rs') ∧ e = e' := by
  unfold ResFloor at h h'
  split at h
  · rename_i hc
    rw [if_pos hc] at h'
    split at h
    · rename_i hc2
      rw [if_pos hc2] at h'
      obtain ⟨rfl, ⟨rfl, rfl⟩, rfl, rfl⟩ := h
      obtain ⟨rfl, ⟨rfl, rfl⟩, rfl, rfl⟩ := h'
      exact ⟨⟨rfl, rfl⟩, ⟨rfl, rfl⟩, rfl⟩
    · rename_i hc2
      rw [if_neg hc2] at h'
      split at h
      · rename_i hc3
        rw [if_pos hc3] at h'
        obtain ⟨rfl, ⟨rfl, rfl⟩, rfl, rfl⟩ := h
        obtain ⟨rfl, ⟨rfl, rfl⟩, rfl, rfl⟩ := h'
        exact ⟨⟨rfl, rfl⟩, ⟨rfl, rfl⟩, rfl⟩
      · rename_i hc3
        rw [if_neg hc3] at h'
        obtain ⟨rfl, h1, h2⟩ := h
        obtain ⟨rfl, h3, h4⟩ := h'
        have u1 := h1.unique h3
        have u2 := h2.unique h4
        exact ⟨⟨u1.1, u1.2.1⟩, ⟨u2.1, u2.2.1⟩, rfl⟩
  · rename_i hc
    rw [if_neg hc] at h'
    obtain ⟨rfl, ⟨rfl, rfl⟩, rfl, rfl⟩ := h
    obtain ⟨rfl, ⟨rfl, rfl⟩, rfl, rfl⟩ := h'
    exact ⟨⟨rfl, rfl⟩, ⟨rfl, rfl⟩, rfl⟩

theorem ResFloor.bad {n : Bool} {zs : List Int} {m : Bool} {ys : List Int} (h : (rightI n zs && rightI m ys) = false ∨ m = true) : ResFloor n zs m ys false [] false [] 1 := by
  unfold ResFloor
  split
  · rename_i hc
    rcases h with h | h
    · rw [h] at hc; cases hc
    · subst h
      split
      · rename_i h0
        simp only [Bool.and_eq_true] at hc
        have := hc.2
        simp [rightI, h0] at this
      · exact ⟨rfl, ⟨rfl, rfl⟩, rfl, rfl⟩
  · exact ⟨rfl, ⟨rfl, rfl⟩, rfl, rfl⟩

theorem ResFloor.zero {n : Bool} {zs : List Int} {m : Bool} {ys : List Int} (h : (rightI n zs && rightI m ys) = true) (h0 : ys.length = 0) : ResFloor n zs m ys false [] false [] 3 := by
  unfold ResFloor
  rw [h, if_pos rfl, if_pos h0]
  exact ⟨rfl, ⟨rfl, rfl⟩, rfl, rfl⟩

theorem ResDiv.parts {zs ys qs rs : List Int} {err : Int} (hz : rightB zs = true) (hy : rightB ys = true) (h0 : ys.length ≠ 0) (h : ResDiv zs ys qs rs err) : err = 0 ∧ (rightB qs = true ∧ rightB rs = true) ∧ (Digs 18446744073709551616 qs ∧ Digs 18446744073709551616 rs) ∧ val 18446744073709551616 qs = val 18446744073709551616 zs / val 18446744073709551616 ys ∧ val 18446744073709551616 rs = val 18446744073709551616 zs % val 18446744073709551616 ys := by
  unfold ResDiv at h
  rw [hz, hy, if_pos (by rfl), if_neg h0] at h
  exact ⟨h.1, ⟨h.2.2.2.1, h.2.2.2.2.1⟩, ⟨h.2.1, h.2.2.1⟩, h.2.2.2.2.2⟩

theorem right_from {ls : List Int} (h : rightB ls = true) (n : Bool) : fromL ls = ls ∧ fromN n ls = (n && decide (0 < ls.length)) := by
  have e1 : fromL ls = ls := by simp [fromL, h]
  exact ⟨e1, by simp [fromN, e1]⟩

theorem res_of {v : Int} {ls : List Int} (hd : Digs 18446744073709551616 ls) (hr : rightB ls = true) (hv : val 18446744073709551616 ls = v) : Res v ls 0 := .inl ⟨rfl, hd, right_top hr, right_len hr, hv⟩

theorem ediv_neg_exact {v b : Int} (h : v % b = 0) : -v / b = -(v / b) ∧ -v % b = 0 := by
  constructor
  · rw [Int.neg_ediv_of_dvd (Int.dvd_of_emod_eq_zero h)]
  · exact Int.emod_eq_zero_of_dvd ((Int.dvd_neg).2 (Int.dvd_of_emod_eq_zero h))

theorem ediv_neg_more {v b : Int} (hb : 0 < b) (h : 0 < v % b) : -v / b = -(v / b + 1) ∧ -v % b = b - v % b := by
  have e := Int.mul_ediv_add_emod v b
  have hlt := Int.emod_lt_of_pos v hb
  have e2 : -v = (b - v % b) + b * (-(v / b + 1)) := by
    have : b * (-(v / b + 1)) = -(b * (v / b)) - b := by rw [Int.mul_neg, Int.mul_add]; omega
    rw [this]; omega
  constructor
  · rw [e2, Int.add_mul_ediv_left _ _ (by omega), Int.ediv_eq_zero_of_lt (by omega) (by omega)]; omega
  · rw [e2, Int.add_mul_emod_self_left, Int.emod_eq_of_lt (by omega) (by omega)]

/-- The quotient and the rest of the sizes serve as they are. -/
theorem floor_direct {n : Bool} {zs ys qs rs : List Int} {err : Int} (hr : rightI n zs = true) (hr' : rightI false ys = true) (h : ResDiv zs ys qs rs err) (hc : n = false ∨ rs.length = 0) :
    ResFloor n zs false ys (n && decide (0 < qs.length)) qs false rs err := by
  have hb := rightI_B hr
  have hb' := rightI_B hr'
  unfold ResDiv at h
  rw [hb, hb', if_pos (by rfl)] at h
  unfold ResFloor
  rw [hr, hr', if_pos (by rfl)]
  split at h
  · rename_i h0
    rw [if_pos h0]
    obtain ⟨rfl, rfl, rfl⟩ := h
    exact ⟨rfl, ⟨by simp, rfl⟩, rfl, rfl⟩
  · rename_i h0
    rw [if_neg h0, if_neg (by simp)]
    obtain ⟨rfl, d1, d2, r1, r2, v1, v2⟩ := h
    have q1 := (res_of d1 r1 v1).signed n
    have q2 := (res_of d2 r2 v2).signed false
    rw [Bool.false_and] at q2
    cases n with
    | false => exact ⟨rfl, q1, q2⟩
    | true =>
      have hz : rs.length = 0 := by rcases hc with hc | hc; cases hc; exact hc
      have hrs : rs = [] := List.eq_nil_of_length_eq_zero hz
      subst hrs
      have v0 : val 18446744073709551616 zs % val 18446744073709551616 ys = 0 := by rw [← v2]; rfl
      obtain ⟨e1, e2⟩ := ediv_neg_exact v0
      refine ⟨rfl, ?_, ?_⟩
      · show ResW (-val 18446744073709551616 zs / val 18446744073709551616 ys) _ _ _
        rw [e1]; exact q1
      · show ResW (-val 18446744073709551616 zs % val 18446744073709551616 ys) _ _ _
        rw [e2]; rw [v0] at q2; exact q2

/-- One further. -/
theorem floor_further {zs ys qs rs : List Int} {err : Int} (hr : rightI true zs = true) (hr' : rightI false ys = true) (hz : Digs 18446744073709551616 zs) (hy : Digs 18446744073709551616 ys) (h : ResDiv zs ys qs rs err) (hc : 0 < rs.length) :
    err = 0 ∧ (rightB qs = true ∧ rightB rs = true) ∧ val 18446744073709551616 qs + 1 < 18446744073709551616 ^ 64 ∧ val 18446744073709551616 rs ≤ val 18446744073709551616 ys ∧
    ∀ ms ls, Res (val 18446744073709551616 qs + 1) ms 0 → Res (val 18446744073709551616 ys - val 18446744073709551616 rs) ls 0 → ResFloor true zs false ys (true && decide (0 < ms.length)) ms false ls 0 := by
  have hb := rightI_B hr
  have hb' := rightI_B hr'
  unfold ResDiv at h
  rw [hb, hb', if_pos (by rfl)] at h
  split at h
  · rename_i h0
    obtain ⟨rfl, rfl, rfl⟩ := h
    simp at hc
  · rename_i h0
    obtain ⟨rfl, d1, d2, r1, r2, v1, v2⟩ := h
    have hp := right_pos hy hb' h0
    have hrp := right_pos d2 r2 (by omega)
    have hm := Int.mul_ediv_add_emod (val 18446744073709551616 zs) (val 18446744073709551616 ys)
    have hlt := Int.emod_lt_of_pos (val 18446744073709551616 zs) hp
    have h64 := val_64 hz hb
    have hqn := val_nonneg (B := 18446744073709551616) (by decide) d1
    rw [← v1, ← v2] at hm
    rw [← v2] at hlt
    have hq1 : val 18446744073709551616 qs * 1 ≤ val 18446744073709551616 qs * val 18446744073709551616 ys := Int.mul_le_mul_of_nonneg_left (by omega) hqn
    rw [Int.mul_comm (val 18446744073709551616 ys)] at hm
    refine ⟨rfl, ⟨r1, r2⟩, by omega, by omega, fun ms ls hms hls => ?_⟩
    obtain ⟨e1, e2⟩ := ediv_neg_more (v := val 18446744073709551616 zs) hp (by rw [← v2]; exact hrp)
    rw [← v1] at e1
    rw [← v2] at e2
    unfold ResFloor
    rw [hr, hr', if_pos (by rfl), if_neg h0, if_neg (by simp)]
    have q1 := hms.signed true
    have q2 := hls.signed false
    rw [Bool.false_and] at q2
    refine ⟨rfl, ?_, ?_⟩
    · show ResW (-val 18446744073709551616 zs / val 18446744073709551616 ys) _ _ _
      rw [e1]; exact q1
    · show ResW (-val 18446744073709551616 zs % val 18446744073709551616 ys) _ _ _
      rw [e2]; exact q2

theorem ResW.got {v : Int} {p : Bool} {ls : List Int} (h : ResW v p ls 0) : iv p ls = v ∧ rightI p ls = true ∧ Digs 18446744073709551616 ls := by
  obtain ⟨h1, h2⟩ := h
  rcases h1 with ⟨_, hd, ht, hl, hv⟩ | ⟨h4, _⟩
  · have hr := right_mk hl ht
    have hz := val_zero_iff hd ht
    rw [hv] at hz
    subst h2
    unfold sz at hv hz
    by_cases h0 : v < 0
    · rw [if_pos h0] at hv hz
      have hp : 0 < ls.length := hz.1 (by omega)
      refine ⟨?_, ?_, hd⟩
      · simp [iv, h0, hv]
      · have hne : ls ≠ [] := by intro e; subst e; simp at hp
        simp [rightI, hr, hne]
    · rw [if_neg h0] at hv hz
      refine ⟨?_, ?_, hd⟩
      · simp [iv, h0, hv]
      · simp [rightI, hr, h0]
  · cases h4

theorem resw_self {n : Bool} {zs : List Int} (hd : Digs 18446744073709551616 zs) (hr : rightI n zs = true) : ResW (iv n zs) n zs 0 := by
  have hb := rightI_B hr
  have h1 := (res_of hd hb rfl).signed n
  have e : (n && decide (0 < zs.length)) = n := by
    cases n with
    | false => rfl
    | true =>
      simp only [rightI, Bool.and_eq_true, Bool.true_and, Bool.not_eq_true', decide_eq_false_iff_not] at hr
      simp only [Bool.true_and, decide_eq_true_eq]; omega
  rw [e] at h1
  exact h1

theorem floor_got {n : Bool} {zs ys : List Int} {p r : Bool} {qs rs : List Int} {e : Int} (hr : rightI n zs = true) (hr' : rightI false ys = true) (h0 : ys.length ≠ 0) (h : ResFloor n zs false ys p qs r rs e) :
    e = 0 ∧ ResW (iv n zs / val 18446744073709551616 ys) p qs 0 ∧ ResW (iv n zs % val 18446744073709551616 ys) r rs 0 := by
  unfold ResFloor at h
  rw [hr, hr', if_pos (by rfl), if_neg h0, if_neg (by simp)] at h
  exact h

end Go.Proofs.Ytaipkganijofjab

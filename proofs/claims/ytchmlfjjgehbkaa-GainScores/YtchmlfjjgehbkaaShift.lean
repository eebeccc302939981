/-
  Contracts of nat.Shl and nat.Shr: a number's bits, moved up and down.
-/
import Derived.Test.YtchmlfjjgehbkaaNatC
import Derived.Test.YtchmlfjjgehbkaaNatE
namespace Go.Proofs.Ytchmlfjjgehbkaa
open Go.RowKit

/-- What is told of a number whose bits are moved up. -/
def ResShl (zs : List Int) (n : Int) (ls : List Int) (err : Int) : Prop :=
  if rightB zs && decide (0 ≤ n) then (if zs.length = 0 then err = 0 ∧ ls = [] else if n > 4096 then err = 4 ∧ ls = [] else Res (val 18446744073709551616 zs * 2 ^ n.toNat) ls err) else err = 1 ∧ ls = []

/-- What is told of a number whose bits are moved down. -/
def ResShr (zs : List Int) (n : Int) (ls : List Int) (err : Int) : Prop :=
  if rightB zs && decide (0 ≤ n) then err = 0 ∧ Digs 18446744073709551616 ls ∧ Top ls ∧ ls.length ≤ 64 ∧ val 18446744073709551616 ls = val 18446744073709551616 zs / 2 ^ n.toNat else err = 1 ∧ ls = []

theorem ResShl.unique {zs : List Int} {n : Int} {ls ks : List Int} {e f : Int} (h : ResShl zs n ls e) (h' : ResShl zs n ks f) : ls = ks ∧ e = f := by
  unfold ResShl at h h'
  split at h
  · rename_i hc
    rw [if_pos hc] at h'
    split at h
    · rename_i hc2
      rw [if_pos hc2] at h'
      exact ⟨h.2.trans h'.2.symm, h.1.trans h'.1.symm⟩
    · rename_i hc2
      rw [if_neg hc2] at h'
      split at h
      · rename_i hc3
        rw [if_pos hc3] at h'
        exact ⟨h.2.trans h'.2.symm, h.1.trans h'.1.symm⟩
      · rename_i hc3
        rw [if_neg hc3] at h'
        exact h.unique h'
  · rename_i hc
    rw [if_neg hc] at h'
    exact ⟨h.2.trans h'.2.symm, h.1.trans h'.1.symm⟩

theorem ResShr.unique {zs : List Int} {n : Int} {ls ks : List Int} {e f : Int} (h : ResShr zs n ls e) (h' : ResShr zs n ks f) : ls = ks ∧ e = f := by
  unfold ResShr at h h'
  split at h
  · rename_i hc
    rw [if_pos hc] at h'
    obtain ⟨rfl, d1, t1, _, v1⟩ := h
    obtain ⟨rfl, d2, t2, _, v2⟩ := h'
    exact ⟨val_inj (by decide) d1 d2 t1 t2 (v1.trans v2.symm), rfl⟩
  · rename_i hc
    rw [if_neg hc] at h'
    exact ⟨h.2.trans h'.2.symm, h.1.trans h'.1.symm⟩

theorem pow64 (m : Nat) : (18446744073709551616 : Int) ^ m = 2 ^ (64 * m) := by rw [Int.pow_mul]; congr 1

theorem exists_digs : ∀ (v : Nat), ∃ zs, Digs 18446744073709551616 zs ∧ Top zs ∧ val 18446744073709551616 zs = (v : Int) := by
  intro v
  induction v using Nat.strongRecOn with
  | ind v ih =>
    by_cases h0 : v = 0
    · subst h0; exact ⟨[], Digs.nil _, .inl rfl, rfl⟩
    · obtain ⟨zs, hd, ht, hv⟩ := ih (v / 18446744073709551616) (by omega)
      refine ⟨((v : Int) % 18446744073709551616) :: zs, ?_, ?_, ?_⟩
      · intro x hx
        rcases List.mem_cons.1 hx with h1 | h1
        · omega
        · exact hd x h1
      · right
        rcases ht with rfl | ht
        · rw [val_nil] at hv
          simp only [List.length_cons, List.length_nil, Nat.zero_add, Nat.sub_self, List.getD_cons_zero]
          omega
        · by_cases hz : zs = []
          · subst hz
            rw [val_nil] at hv
            simp only [List.length_cons, List.length_nil, Nat.zero_add, Nat.sub_self, List.getD_cons_zero]
            omega
          · have hl : 0 < zs.length := List.length_pos_iff.2 hz
            obtain ⟨k, hk⟩ : ∃ k, zs.length = k + 1 := ⟨zs.length - 1, by omega⟩
            rw [List.length_cons, hk, Nat.add_sub_cancel, List.getD_cons_succ]
            rw [hk, Nat.add_sub_cancel] at ht
            exact ht
      · rw [val_cons, hv]; omega

theorem res_big {v : Int} (h : (18446744073709551616 : Int) ^ 64 ≤ v) : Res v [] 4 := by
  have hp := pow_pos' (B := 18446744073709551616) (by decide) 64
  obtain ⟨zs, hd, ht, hv⟩ := exists_digs v.toNat
  rw [Int.toNat_of_nonneg (by omega)] at hv
  refine .inr ⟨rfl, rfl, zs, hd, ht, hv, ?_⟩
  by_cases hl : 64 < zs.length
  · exact hl
  · have := val_lt_pow (B := 18446744073709551616) (by decide) hd (k := 64) (by omega)
    omega

/-- A number's bits: moved up by s, it fills all its limbs. -/
theorem bits_norm {zs : List Int} (hd : Digs 18446744073709551616 zs) (hr : rightB zs = true) (h0 : zs.length ≠ 0) : ∃ s : Nat, s ≤ 63 ∧ bitsZ zs = 64 * (zs.length : Int) - s ∧
    18446744073709551616 ^ (zs.length - 1) * 9223372036854775808 ≤ val 18446744073709551616 zs * 2 ^ s ∧ val 18446744073709551616 zs * 2 ^ s < 18446744073709551616 ^ zs.length := by
  obtain ⟨m, hm⟩ : ∃ m, zs.length = m + 1 := ⟨zs.length - 1, by omega⟩
  have htop : zs.getD m 0 ≠ 0 := by
    rcases right_top hr with e | e
    · rw [e] at h0; exact absurd rfl h0
    · rw [hm] at e; exact e
  have hy := hd.getD (by decide) m
  obtain ⟨s, hs, hs63, hn1, hn2⟩ := norm_of (show 0 < zs.getD m 0 by omega) hy.2
  refine ⟨s, hs63, ?_, ?_, ?_⟩
  · have e : bitsZ zs = (((m + 1 : Nat) : Int) - 1) * 64 + bl (zs.getD m 0) := by
      unfold bitsZ
      rw [hr, hm, Nat.add_sub_cancel, Bool.true_and, if_pos (by simp)]
    rw [e, hm]
    omega
  · rw [hm, Nat.add_sub_cancel]
    have e := val_take_succ 18446744073709551616 zs m (by omega)
    rw [List.take_of_length_le (by omega)] at e
    have t := val_nonneg (B := 18446744073709551616) (by decide) (hd.take m)
    have pm := pow_pos' (B := 18446744073709551616) (by decide) m
    have p2 := pow_pos' (B := 2) (by decide) s
    have f1 : 18446744073709551616 ^ m * 9223372036854775808 ≤ 18446744073709551616 ^ m * (zs.getD m 0 * 2 ^ s) := Int.mul_le_mul_of_nonneg_left hn1 (by omega)
    have f2 : 18446744073709551616 ^ m * zs.getD m 0 * 2 ^ s ≤ val 18446744073709551616 zs * 2 ^ s := Int.mul_le_mul_of_nonneg_right (by omega) (by omega)
    rw [Int.mul_assoc] at f2
    omega
  · rw [hm]
    have p2 := pow_pos' (B := 2) (by decide) s
    have pm := pow_pos' (B := 18446744073709551616) (by decide) m
    have e := val_take_succ 18446744073709551616 zs m (by omega)
    rw [List.take_of_length_le (by omega)] at e
    have t := val_lt (B := 18446744073709551616) (by decide) (hd.take m)
    rw [List.length_take, Nat.min_eq_left (by omega)] at t
    have hpr := pr_eq (p := s) (by omega)
    have hd1 : zs.getD m 0 < 2 ^ (64 - s) := by
      by_cases hc : zs.getD m 0 < 2 ^ (64 - s)
      · exact hc
      · have : 2 ^ (64 - s) * 2 ^ s ≤ zs.getD m 0 * 2 ^ s := Int.mul_le_mul_of_nonneg_right (by omega) (by omega)
        rw [Int.mul_comm (2 ^ (64 - s)), hpr] at this
        omega
    have f1 : 18446744073709551616 ^ m * (zs.getD m 0 + 1) ≤ 18446744073709551616 ^ m * 2 ^ (64 - s) := Int.mul_le_mul_of_nonneg_left (by omega) (by omega)
    rw [Int.mul_add] at f1
    have f2 : val 18446744073709551616 zs * 2 ^ s < 18446744073709551616 ^ m * 2 ^ (64 - s) * 2 ^ s := Int.mul_lt_mul_of_pos_right (by omega) p2
    rw [Int.mul_assoc, Int.mul_comm (2 ^ (64 - s)), hpr] at f2
    rw [Int.pow_succ]; exact f2

theorem shl_fits {zs : List Int} {n : Nat} (hd : Digs 18446744073709551616 zs) (hr : rightB zs = true) (h0 : zs.length ≠ 0) (h : (n : Int) ≤ 4096 - bitsZ zs) : val 18446744073709551616 zs * 2 ^ n < 18446744073709551616 ^ 64 := by
  obtain ⟨s, hs, hb, h1, h2⟩ := bits_norm hd hr h0
  have p2 := pow_pos' (B := 2) (by decide) s
  have pn := pow_pos' (B := 2) (by decide) n
  have f1 : val 18446744073709551616 zs * 2 ^ s * 2 ^ n < 18446744073709551616 ^ zs.length * 2 ^ n := Int.mul_lt_mul_of_pos_right h2 pn
  have f2 : (18446744073709551616 : Int) ^ zs.length * 2 ^ n ≤ 18446744073709551616 ^ 64 * 2 ^ s := by
    rw [pow64, pow64, ← Int.pow_add, ← Int.pow_add]
    exact pow_mono (by decide) (by omega)
  by_cases hc : val 18446744073709551616 zs * 2 ^ n < 18446744073709551616 ^ 64
  · exact hc
  · have f3 : 18446744073709551616 ^ 64 * 2 ^ s ≤ val 18446744073709551616 zs * 2 ^ n * 2 ^ s := Int.mul_le_mul_of_nonneg_right (Int.not_lt.1 hc) (by omega)
    rw [Int.mul_right_comm] at f3
    omega

theorem shl_big {zs : List Int} {n : Nat} (hd : Digs 18446744073709551616 zs) (hr : rightB zs = true) (h0 : zs.length ≠ 0) (h : 4096 - bitsZ zs < (n : Int)) : 18446744073709551616 ^ 64 ≤ val 18446744073709551616 zs * 2 ^ n := by
  obtain ⟨s, hs, hb, h1, h2⟩ := bits_norm hd hr h0
  have p2 := pow_pos' (B := 2) (by decide) s
  have pn := pow_pos' (B := 2) (by decide) n
  have f1 : 18446744073709551616 ^ (zs.length - 1) * 9223372036854775808 * 2 ^ n ≤ val 18446744073709551616 zs * 2 ^ s * 2 ^ n := Int.mul_le_mul_of_nonneg_right h1 (by omega)
  have f2 : (18446744073709551616 : Int) ^ 64 * 2 ^ s ≤ 18446744073709551616 ^ (zs.length - 1) * 9223372036854775808 * 2 ^ n := by
    rw [pow64, pow64, show (9223372036854775808 : Int) = 2 ^ 63 by decide, ← Int.pow_add, ← Int.pow_add, ← Int.pow_add]
    exact pow_mono (by decide) (by omega)
  by_cases hc : 18446744073709551616 ^ 64 ≤ val 18446744073709551616 zs * 2 ^ n
  · exact hc
  · have f3 : val 18446744073709551616 zs * 2 ^ n * 2 ^ s < 18446744073709551616 ^ 64 * 2 ^ s := Int.mul_lt_mul_of_pos_right (Int.not_le.1 hc) p2
    rw [Int.mul_right_comm] at f3
    omega

theorem shr_none {zs : List Int} {n : Nat} (hd : Digs 18446744073709551616 zs) (hr : rightB zs = true) (h : bitsZ zs ≤ (n : Int)) : val 18446744073709551616 zs / 2 ^ n = 0 := by
  have hn := val_nonneg (B := 18446744073709551616) (by decide) hd
  by_cases h0 : zs.length = 0
  · rw [List.eq_nil_of_length_eq_zero h0, val_nil, Int.zero_ediv]
  · obtain ⟨s, hs, hb, h1, h2⟩ := bits_norm hd hr h0
    have p2 := pow_pos' (B := 2) (by decide) s
    refine Int.ediv_eq_zero_of_lt hn ?_
    by_cases hc : val 18446744073709551616 zs < 2 ^ n
    · exact hc
    · have f3 : 2 ^ n * 2 ^ s ≤ val 18446744073709551616 zs * 2 ^ s := Int.mul_le_mul_of_nonneg_right (Int.not_lt.1 hc) (by omega)
      have f2 : (18446744073709551616 : Int) ^ zs.length ≤ 2 ^ n * 2 ^ s := by
        rw [pow64, ← Int.pow_add]
        exact pow_mono (by decide) (by omega)
      omega

theorem up_room2 {xs : List Int} {la n : Nat} (hx : Digs 18446744073709551616 xs) (hxl : xs.length = la) : val 18446744073709551616 xs * 2 ^ n < 18446744073709551616 ^ (la + n / 64 + 1) := by
  have p1 := pow_pos' (B := 2) (by decide) n
  have f2 := val_lt (B := 18446744073709551616) (by decide) hx
  have f3 : val 18446744073709551616 xs * 2 ^ n < 18446744073709551616 ^ xs.length * 2 ^ n := Int.mul_lt_mul_of_pos_right f2 p1
  have f4 : (18446744073709551616 : Int) ^ xs.length * 2 ^ n ≤ 18446744073709551616 ^ (la + n / 64 + 1) := by
    rw [pow64, pow64, ← Int.pow_add]
    exact pow_mono (by decide) (by omega)
  omega


end Go.Proofs.Ytchmlfjjgehbkaa

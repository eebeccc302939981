/-
  Contracts of Below and Small of the document's tapes.
-/
import Derived.Test.YtambpcgdaogojabGreatTapeG
import Derived.Test.YtambpcgdaogojabGreatRefMovesA
import Derived.Test.YtambpcgdaogojabGreatRefRead
namespace Go.Proofs.YtambpcgdaogojabGreat
open Go.RowKit

theorem shr_of {xs ts : List Int} {v e : Int} {W : Nat} (hr : rightB xs = true) (hv : val 18446744073709551616 xs = v) (h : ResShr xs W ts e) : Digs 18446744073709551616 ts ∧ rightB ts = true ∧ val 18446744073709551616 ts = v / 2 ^ W := by
  unfold ResShr at h
  rw [hr, if_pos (by simp)] at h
  obtain ⟨_, d, t, l, hv2⟩ := h
  refine ⟨d, right_mk l t, ?_⟩
  rw [hv2, hv]; simp

theorem shl_of {ts hs : List Int} {t e : Int} {W : Nat} (hd : Digs 18446744073709551616 ts) (hr : rightB ts = true) (hv : val 18446744073709551616 ts = t) (hW : W ≤ 4096) (hfit : t * 2 ^ W < 18446744073709551616 ^ 64) (h : ResShl ts W hs e) : Digs 18446744073709551616 hs ∧ rightB hs = true ∧ val 18446744073709551616 hs = t * 2 ^ W := by
  unfold ResShl at h
  rw [hr, if_pos (by simp)] at h
  split at h
  · rename_i h0
    obtain ⟨_, rfl⟩ := h
    have : ts = [] := List.eq_nil_of_length_eq_zero h0
    subst this
    simp [val] at hv
    subst hv
    exact ⟨Digs.nil _, rfl, by simp [val]⟩
  · rw [if_neg (by omega), hv] at h
    simp only [Int.toNat_natCast] at h
    obtain ⟨_, a, b, c⟩ := res_fits h hfit
    exact ⟨a, b, c⟩

theorem low_of {xs hs ls : List Int} {v e : Int} {W : Nat} (hx : rightB xs = true) (hh : rightB hs = true) (hxv : val 18446744073709551616 xs = v) (hhv : val 18446744073709551616 hs = v / 2 ^ W * 2 ^ W) (hv0 : 0 ≤ v) (hfit : v < 18446744073709551616 ^ 64) (h : ResSub xs hs ls e) : Res (v % 2 ^ W) ls 0 := by
  have hp := pow_pos' (B := 2) (by decide) W
  have e1 := Int.emod_add_mul_ediv v (2 ^ W)
  have e2 := Int.emod_nonneg v (show (2 : Int) ^ W ≠ 0 by omega)
  have e3 := Int.mul_comm (v / 2 ^ W) (2 ^ W)
  have e4 : v % 2 ^ W ≤ v := by
    have : 0 ≤ 2 ^ W * (v / 2 ^ W) := Int.mul_nonneg (by omega) (Int.ediv_nonneg hv0 (by omega))
    omega
  unfold ResSub at h
  rw [hx, hh, if_pos (show (true && true) = true from rfl), hxv, hhv, if_neg (by omega), show v - v / 2 ^ W * 2 ^ W = v % 2 ^ W by omega] at h
  exact (res_fits0 h (by omega)).1

theorem high_fits {v : Int} {W : Nat} (hv0 : 0 ≤ v) (hfit : v < 18446744073709551616 ^ 64) : v / 2 ^ W * 2 ^ W < 18446744073709551616 ^ 64 := by
  have hp := pow_pos' (B := 2) (by decide) W
  have e1 := Int.emod_add_mul_ediv v (2 ^ W)
  have e2 := Int.emod_nonneg v (show (2 : Int) ^ W ≠ 0 by omega)
  have e3 := Int.mul_comm (v / 2 ^ W) (2 ^ W)
  omega

end Go.Proofs.YtambpcgdaogojabGreat

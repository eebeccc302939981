/-
  The plain reckoning of the quotients' law: the quotient times the divisor and the rest is the number.
-/
import Derived.Test.YtennhoalgclhjacMul
import Derived.Test.YtennhoalgclhjacDiv
namespace Go.Proofs.Ytennhoalgclhjac
open Go.RowKit

theorem res_fits {v : Int} {ls : List Int} {e : Int} (h : Res v ls e) (hv : v < 18446744073709551616 ^ 64) : e = 0 ∧ Digs 18446744073709551616 ls ∧ rightB ls = true ∧ val 18446744073709551616 ls = v := by
  rcases h with ⟨rfl, hd, ht, hl, hv'⟩ | ⟨_, _, zs, hd, ht, hv', hl⟩
  · exact ⟨rfl, hd, right_mk hl ht, hv'⟩
  · have := len_le (B := 18446744073709551616) (by decide) hd ht (k := 64) (by omega)
    omega

theorem back_ok {zs ys qs rs ps ss : List Int} {e pe se : Int} (hz : Digs 18446744073709551616 zs) (hy : Digs 18446744073709551616 ys) (hr : rightB zs = true) (hr' : rightB ys = true) (h0 : ys.length ≠ 0) (h1 : ResDiv zs ys qs rs e)
    (h2 : Res2 qs ys (val 18446744073709551616 qs * val 18446744073709551616 ys) ps pe) (h3 : Res2 ps rs (val 18446744073709551616 ps + val 18446744073709551616 rs) ss se) : e = 0 ∧ pe = 0 ∧ se = 0 ∧ ss = zs ∧ cmpN rs ys = -1 := by
  have hp := right_pos hy hr' h0
  rw [ResDiv, hr, hr', Bool.and_true, if_pos rfl, if_neg h0] at h1
  obtain ⟨e0, dq, dr, rq, rr, vq, vr⟩ := h1
  rw [Res2, rq, hr', Bool.and_true, if_pos rfl] at h2
  have lz := val_lt_pow (B := 18446744073709551616) (by decide) hz (right_len hr)
  have m1 := Int.emod_nonneg (val 18446744073709551616 zs) (show val 18446744073709551616 ys ≠ 0 by omega)
  have m2 := Int.emod_lt_of_pos (val 18446744073709551616 zs) hp
  have m3 := Int.emod_add_mul_ediv (val 18446744073709551616 zs) (val 18446744073709551616 ys)
  rw [Int.mul_comm, ← vq, ← vr] at m3
  rw [← vr] at m1 m2
  obtain ⟨p0, dp, rp, vp⟩ := res_fits h2 (by omega)
  rw [Res2, rp, rr, Bool.and_true, if_pos rfl] at h3
  obtain ⟨s0, ds, rs', vs'⟩ := res_fits h3 (by omega)
  refine ⟨e0, p0, s0, val_inj (by decide) ds hz (right_top rs') (right_top hr) (by omega), ?_⟩
  rw [cmpN, rr, hr', Bool.and_true, if_pos rfl, cmpZ_lt m2]

theorem resdiv_one {qs rs : List Int} {e : Int} (h : ResDiv [1] [1] qs rs e) : qs.length = 1 := by
  have h2 : ResDiv [1] [1] [1] [] 0 := resdiv_mk (by intro x hx; simp at hx; omega) (by intro x hx; simp at hx; omega) (by decide) (by decide) (by decide) (by intro x hx; simp at hx; omega) (Digs.nil _) (by simp [Top]) (.inl rfl) (by decide) (by decide)
  rw [(h.unique h2).1]; rfl
end Go.Proofs.Ytennhoalgclhjac

/-
  What the laws over two or three numbers share: few at their arguments, and what is told of [1].
-/
import Derived.Test.YtaipkganijofjabAdd
namespace Go.Proofs.Ytaipkganijofjab
open Go.RowKit



theorem fewB_two {a b : Nat} (h : fewB [a, b] = true) : a ≤ 70 ∧ b ≤ 70 := by
  simp [fewB] at h; exact h

theorem res_one {ls : List Int} {v err : Int} (hv : v = 1) (h : Res v ls err) : ls.length = 1 := by
  subst hv
  have h1 : Res 1 [1] 0 := .inl ⟨rfl, by intro x hx; simp at hx; subst hx; omega, .inr (by decide), by decide, by simp [val]⟩
  rw [(h.unique h1).1]; rfl

theorem Res2.ok {zs ys : List Int} {v : Int} {ls : List Int} (h : Res2 zs ys v ls 0) : rightB zs = true ∧ rightB ys = true ∧ Digs 18446744073709551616 ls ∧ Top ls ∧ ls.length ≤ 64 ∧ val 18446744073709551616 ls = v := by
  unfold Res2 at h
  split at h
  · rename_i hc
    simp only [Bool.and_eq_true] at hc
    rcases h with ⟨_, hd, ht, hl, hv⟩ | ⟨he, _⟩
    · exact ⟨hc.1, hc.2, hd, ht, hl, hv⟩
    · omega
  · omega
theorem Res2.swap {zs ys : List Int} {v v' : Int} {ls : List Int} {e : Int} (h : Res2 zs ys v ls e) (hv : v = v') : Res2 ys zs v' ls e := by
  subst hv
  unfold Res2 at h ⊢
  rwa [Bool.and_comm] at h

theorem int_of_wf {x : Int} (h : (Lit.int .i64 x).wf = true) : -9223372036854775808 ≤ x ∧ x < 9223372036854775808 := by
  simp [Lit.wf, IntKind.min, IntKind.max, IntKind.signed, IntKind.bits] at h
  exact ⟨by omega, by omega⟩
end Go.Proofs.Ytaipkganijofjab

/-
  What the laws over two or three numbers share: few at their arguments, and what is told of [1].
-/
import Derived.Test.YtnioobiodiofiabAdd
namespace Go.Proofs.Ytnioobiodiofiab
open Go.RowKit

theorem few_two (a0 a1 : Option Addr) (len0 cap0 len1 cap1 : Nat) (zs ys : List Int) (w : World) (H0 : Nums w a0 len0 cap0 zs) (H1 : Nums w a1 len1 cap1 ys) :
    Calls Try.prog 13 #[.slice (some ⟨w.heap.size, 0, none⟩) 2 2] (w.alloc (.cells #[.slice a0 len0 cap0, .slice a1 len1 cap1] 23))
      fun e w' => e = .returned (.bool (fewB [len0, len1])) ∧ Nums w' a0 len0 cap0 zs ∧ Nums w' a1 len1 cap1 ys ∧ Below w.heap.size w w' := by
  have hm0 := H0.hmax
  have hm1 := H1.hmax
  have hc0 := H0.hcap
  have hc1 := H1.hcap
  have hB0 := (Below.refl w.heap.size w).alloc (Nat.le_refl _) (.cells #[.slice a0 len0 cap0, .slice a1 len1 cap1] 23)
  refine (few_any w.heap.size 2 2 [len0, len1] (w.alloc (.cells #[.slice a0 len0 cap0, .slice a1 len1 cap1] 23)) rfl (by omega)
    (by intro l hl; simp at hl; rcases hl with rfl | rfl <;> omega)
    (by intro i hi; match i, hi with
        | 0, _ => exact ⟨a0, cap0, by simp⟩
        | 1, _ => exact ⟨a1, cap1, by simp⟩)).mono ?_
  rintro e w' ⟨rfl, rfl⟩
  exact ⟨rfl, H0.below hB0, H1.below hB0, hB0⟩

theorem few_three (a0 a1 a2 : Option Addr) (len0 cap0 len1 cap1 len2 cap2 : Nat) (zs ys xs : List Int) (w : World) (H0 : Nums w a0 len0 cap0 zs) (H1 : Nums w a1 len1 cap1 ys) (H2 : Nums w a2 len2 cap2 xs) :
    Calls Try.prog 13 #[.slice (some ⟨w.heap.size, 0, none⟩) 3 3] (w.alloc (.cells #[.slice a0 len0 cap0, .slice a1 len1 cap1, .slice a2 len2 cap2] 23))
      fun e w' => e = .returned (.bool (fewB [len0, len1, len2])) ∧ Nums w' a0 len0 cap0 zs ∧ Nums w' a1 len1 cap1 ys ∧ Nums w' a2 len2 cap2 xs ∧ Below w.heap.size w w' := by
  have hm0 := H0.hmax
  have hm1 := H1.hmax
  have hm2 := H2.hmax
  have hc0 := H0.hcap
  have hc1 := H1.hcap
  have hc2 := H2.hcap
  have hB0 := (Below.refl w.heap.size w).alloc (Nat.le_refl _) (.cells #[.slice a0 len0 cap0, .slice a1 len1 cap1, .slice a2 len2 cap2] 23)
  refine (few_any w.heap.size 3 3 [len0, len1, len2] (w.alloc (.cells #[.slice a0 len0 cap0, .slice a1 len1 cap1, .slice a2 len2 cap2] 23)) rfl (by omega)
    (by intro l hl; simp at hl; rcases hl with rfl | rfl | rfl <;> omega)
    (by intro i hi; match i, hi with
        | 0, _ => exact ⟨a0, cap0, by simp⟩
        | 1, _ => exact ⟨a1, cap1, by simp⟩
        | 2, _ => exact ⟨a2, cap2, by simp⟩)).mono ?_
  rintro e w' ⟨rfl, rfl⟩
  exact ⟨rfl, H0.below hB0, H1.below hB0, H2.below hB0, hB0⟩

theorem few_one (a0 : Option Addr) (len0 cap0 : Nat) (zs : List Int) (w : World) (H0 : Nums w a0 len0 cap0 zs) :
    Calls Try.prog 13 #[.slice (some ⟨w.heap.size, 0, none⟩) 1 1] (w.alloc (.cells #[.slice a0 len0 cap0] 23))
      fun e w' => e = .returned (.bool (fewB [len0])) ∧ Nums w' a0 len0 cap0 zs ∧ Below w.heap.size w w' := by
  have hm0 := H0.hmax
  have hc0 := H0.hcap
  have hB0 := (Below.refl w.heap.size w).alloc (Nat.le_refl _) (.cells #[.slice a0 len0 cap0] 23)
  refine (few_any w.heap.size 1 1 [len0] (w.alloc (.cells #[.slice a0 len0 cap0] 23)) rfl (by omega)
    (by intro l hl; simp at hl; omega)
    (by intro i hi; match i, hi with
        | 0, _ => exact ⟨a0, cap0, by simp⟩)).mono ?_
  rintro e w' ⟨rfl, rfl⟩
  exact ⟨rfl, H0.below hB0, hB0⟩

theorem fewB_two {a b : Nat} (h : fewB [a, b] = true) : a ≤ 70 ∧ b ≤ 70 := by
  simp [fewB] at h; exact h

theorem res_one {ls : List Int} {v err : Int} (hv : v = 1) (h : Res v ls err) : ls.length = 1 := by
  subst hv
  have h1 : Res 1 [1] 0 := .inl ⟨rfl, by intro x hx; simp at hx; subst hx; omega, .inr (by decide), by decide, by simp [val]⟩
  rw [(h.unique h1).1]; rfl

theorem Res2.ok {zs ys : List Int} {v : Int} {ls : List Int} (h : Res2 zs ys v ls 0) : rightB zs = true ∧ rightB ys = true ∧ Digs 18446744073709551616 ls ∧ Top ls ∧ ls.length ≤ 64 ∧ val 18446744073709551616 ls = v := by
  unfold Res2 at h
  split at h
  · rename_i hc
    simp only [Bool.and_eq_true] at hc
    rcases h with ⟨_, hd, ht, hl, hv⟩ | ⟨he, _⟩
    · exact ⟨hc.1, hc.2, hd, ht, hl, hv⟩
    · omega
  · omega
theorem Res2.swap {zs ys : List Int} {v v' : Int} {ls : List Int} {e : Int} (h : Res2 zs ys v ls e) (hv : v = v') : Res2 ys zs v' ls e := by
  subst hv
  unfold Res2 at h ⊢
  rwa [Bool.and_comm] at h

theorem int_of_wf {x : Int} (h : (Lit.int .i64 x).wf = true) : -9223372036854775808 ≤ x ∧ x < 9223372036854775808 := by
  simp [Lit.wf, IntKind.min, IntKind.max, IntKind.signed, IntKind.bits] at h
  exact ⟨by omega, by omega⟩
end Go.Proofs.Ytnioobiodiofiab

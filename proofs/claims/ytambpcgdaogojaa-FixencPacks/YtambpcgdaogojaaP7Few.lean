/-
  The contract of stage 7's few, for one list of limbs up to four.
-/
import Derived.Test.YtambpcgdaogojaaNatA
namespace Go.Proofs.Ytambpcgdaogojaa
open Go.RowKit

set_option maxHeartbeats 400000 in
theorem qfew_any (b n cap : Nat) (ls : List Nat) (w : World) (hl : ls.length = n) (hn : n ≤ 1000) (hb : ∀ l, l ∈ ls → l ≤ maxLen)
    (hc : ∀ i, i < n → ∃ a c, w.cell? ⟨b, i, none⟩ = some (.slice a (ls.getD i 0) c)) :
    Calls Try.prog 9 #[.slice (some ⟨b, 0, none⟩) n cap] w fun e w' => e = .returned (.bool (manyB 20 ls)) ∧ w' = w := by
  have HL : Hid (ls.length = n) := hl
  clear hl
  go_enter Try.func9, Try.ntmps9
  go_wp2
  go_loopw [3] (fun i wr => ∃ k : Nat, k ≤ n ∧ i = .int .i64 k ∧ (∀ j, j < k → j < ls.length → ls.getD j 0 ≤ 20) ∧ wr = w) (fun i _ => n - (intOf i).toNat)
  case atStart => exact ⟨0, Nat.zero_le _, rfl, fun j hj => by omega, rfl⟩
  case round =>
    obtain ⟨k, hk, rfl, heq, rfl⟩ := hrel
    have HE : Hid (∀ j, j < k → j < ls.length → ls.getD j 0 ≤ 20) := heq
    clear heq
    by_cases hlt : k < n
    · obtain ⟨a, c, hcell⟩ := hc k hlt
      obtain ⟨x, hx⟩ : ∃ x, x = ls.getD k 0 := ⟨_, rfl⟩
      rw [← hx] at hcell
      have hxm : x ≤ maxLen := by
        have hkl : k < ls.length := by have := HL.out; omega
        rw [hx]
        have e : ls.getD k 0 = ls[k] := by simp [List.getD, hkl]
        rw [e]; exact hb _ (List.getElem_mem hkl)
      have HX : Hid (x = ls.getD k 0) := hx
      clear hx hc
      have hlti : (k : Int) < (n : Int) := by omega
      by_cases hM : x ≤ 20
      · have hd : decide ((20 : Int) < (x : Int)) = false := by simp; omega
        go_wp2
        go_roundw
        case rel =>
          refine ⟨k + 1, by omega, by go_num, fun j h1 h2 => ?_, by first | rfl | trivial⟩
          by_cases hj : j < k
          · exact HE.out j hj h2
          · obtain rfl : j = k := by omega
            rw [← HX.out]; exact hM
        case measure => simp [intOf]; omega
      · have hd : (20 : Int) < (x : Int) := by omega
        go_wp2
        go_ret
        exact ⟨ret_bool (manyB_no (k := k) (by have := HL.out; omega) (by rw [← HX.out]; omega)).symm, rfl⟩
    · go_wp2
      go_ret
      exact ⟨ret_bool (manyB_yes (k := k) (by have := HL.out; omega) HE.out).symm, rfl⟩


theorem qfew_one (a0 : Option Addr) (len0 cap0 : Nat) (z0 : List Int) (w : World) (H0 : Nums w a0 len0 cap0 z0) :
    Calls Try.prog 9 #[.slice (some ⟨w.heap.size, 0, none⟩) 1 1] (w.alloc (.cells #[.slice a0 len0 cap0] 23))
      fun e w' => e = .returned (.bool (manyB 20 [len0])) ∧ Nums w' a0 len0 cap0 z0 ∧ Below w.heap.size w w' := by
  have hm0 := H0.hmax
  have hc0 := H0.hcap
  have hB0 := (Below.refl w.heap.size w).alloc (Nat.le_refl _) (.cells #[.slice a0 len0 cap0] 23)
  refine (qfew_any w.heap.size 1 1 [len0] (w.alloc (.cells #[.slice a0 len0 cap0] 23)) rfl (by omega)
    (by intro l hl; simp at hl; subst hl; omega)
    (by intro i hi; match i, hi with
        | 0, _ => exact ⟨a0, cap0, by simp⟩)).mono ?_
  rintro e w' ⟨rfl, rfl⟩
  exact ⟨rfl, H0.below hB0, hB0⟩

theorem qfew_two (a0 a1 : Option Addr) (len0 cap0 len1 cap1 : Nat) (z0 z1 : List Int) (w : World) (H0 : Nums w a0 len0 cap0 z0) (H1 : Nums w a1 len1 cap1 z1) :
    Calls Try.prog 9 #[.slice (some ⟨w.heap.size, 0, none⟩) 2 2] (w.alloc (.cells #[.slice a0 len0 cap0, .slice a1 len1 cap1] 23))
      fun e w' => e = .returned (.bool (manyB 20 [len0, len1])) ∧ Nums w' a0 len0 cap0 z0 ∧ Nums w' a1 len1 cap1 z1 ∧ Below w.heap.size w w' := by
  have hm0 := H0.hmax
  have hc0 := H0.hcap
  have hm1 := H1.hmax
  have hc1 := H1.hcap
  have hB0 := (Below.refl w.heap.size w).alloc (Nat.le_refl _) (.cells #[.slice a0 len0 cap0, .slice a1 len1 cap1] 23)
  refine (qfew_any w.heap.size 2 2 [len0, len1] (w.alloc (.cells #[.slice a0 len0 cap0, .slice a1 len1 cap1] 23)) rfl (by omega)
    (by intro l hl; simp at hl; rcases hl with rfl | rfl <;> omega)
    (by intro i hi; match i, hi with
        | 0, _ => exact ⟨a0, cap0, by simp⟩
        | 1, _ => exact ⟨a1, cap1, by simp⟩)).mono ?_
  rintro e w' ⟨rfl, rfl⟩
  exact ⟨rfl, H0.below hB0, H1.below hB0, hB0⟩

theorem qfew_three (a0 a1 a2 : Option Addr) (len0 cap0 len1 cap1 len2 cap2 : Nat) (z0 z1 z2 : List Int) (w : World) (H0 : Nums w a0 len0 cap0 z0) (H1 : Nums w a1 len1 cap1 z1) (H2 : Nums w a2 len2 cap2 z2) :
    Calls Try.prog 9 #[.slice (some ⟨w.heap.size, 0, none⟩) 3 3] (w.alloc (.cells #[.slice a0 len0 cap0, .slice a1 len1 cap1, .slice a2 len2 cap2] 23))
      fun e w' => e = .returned (.bool (manyB 20 [len0, len1, len2])) ∧ Nums w' a0 len0 cap0 z0 ∧ Nums w' a1 len1 cap1 z1 ∧ Nums w' a2 len2 cap2 z2 ∧ Below w.heap.size w w' := by
  have hm0 := H0.hmax
  have hc0 := H0.hcap
  have hm1 := H1.hmax
  have hc1 := H1.hcap
  have hm2 := H2.hmax
  have hc2 := H2.hcap
  have hB0 := (Below.refl w.heap.size w).alloc (Nat.le_refl _) (.cells #[.slice a0 len0 cap0, .slice a1 len1 cap1, .slice a2 len2 cap2] 23)
  refine (qfew_any w.heap.size 3 3 [len0, len1, len2] (w.alloc (.cells #[.slice a0 len0 cap0, .slice a1 len1 cap1, .slice a2 len2 cap2] 23)) rfl (by omega)
    (by intro l hl; simp at hl; rcases hl with rfl | rfl | rfl <;> omega)
    (by intro i hi; match i, hi with
        | 0, _ => exact ⟨a0, cap0, by simp⟩
        | 1, _ => exact ⟨a1, cap1, by simp⟩
        | 2, _ => exact ⟨a2, cap2, by simp⟩)).mono ?_
  rintro e w' ⟨rfl, rfl⟩
  exact ⟨rfl, H0.below hB0, H1.below hB0, H2.below hB0, hB0⟩

theorem qfew_four (a0 a1 a2 a3 : Option Addr) (len0 cap0 len1 cap1 len2 cap2 len3 cap3 : Nat) (z0 z1 z2 z3 : List Int) (w : World) (H0 : Nums w a0 len0 cap0 z0) (H1 : Nums w a1 len1 cap1 z1) (H2 : Nums w a2 len2 cap2 z2) (H3 : Nums w a3 len3 cap3 z3) :
    Calls Try.prog 9 #[.slice (some ⟨w.heap.size, 0, none⟩) 4 4] (w.alloc (.cells #[.slice a0 len0 cap0, .slice a1 len1 cap1, .slice a2 len2 cap2, .slice a3 len3 cap3] 23))
      fun e w' => e = .returned (.bool (manyB 20 [len0, len1, len2, len3])) ∧ Nums w' a0 len0 cap0 z0 ∧ Nums w' a1 len1 cap1 z1 ∧ Nums w' a2 len2 cap2 z2 ∧ Nums w' a3 len3 cap3 z3 ∧ Below w.heap.size w w' := by
  have hm0 := H0.hmax
  have hc0 := H0.hcap
  have hm1 := H1.hmax
  have hc1 := H1.hcap
  have hm2 := H2.hmax
  have hc2 := H2.hcap
  have hm3 := H3.hmax
  have hc3 := H3.hcap
  have hB0 := (Below.refl w.heap.size w).alloc (Nat.le_refl _) (.cells #[.slice a0 len0 cap0, .slice a1 len1 cap1, .slice a2 len2 cap2, .slice a3 len3 cap3] 23)
  refine (qfew_any w.heap.size 4 4 [len0, len1, len2, len3] (w.alloc (.cells #[.slice a0 len0 cap0, .slice a1 len1 cap1, .slice a2 len2 cap2, .slice a3 len3 cap3] 23)) rfl (by omega)
    (by intro l hl; simp at hl; rcases hl with rfl | rfl | rfl | rfl <;> omega)
    (by intro i hi; match i, hi with
        | 0, _ => exact ⟨a0, cap0, by simp⟩
        | 1, _ => exact ⟨a1, cap1, by simp⟩
        | 2, _ => exact ⟨a2, cap2, by simp⟩
        | 3, _ => exact ⟨a3, cap3, by simp⟩)).mono ?_
  rintro e w' ⟨rfl, rfl⟩
  exact ⟨rfl, H0.below hB0, H1.below hB0, H2.below hB0, H3.below hB0, hB0⟩
end Go.Proofs.Ytambpcgdaogojaa

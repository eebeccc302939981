/-
  The contract of few: no list of limbs is longer than 70.
-/
import Derived.Test.YtnioobiodiofiabCmp
namespace Go.Proofs.Ytnioobiodiofiab
open Go.RowKit

/-- None is above 70. -/
def fewB (ls : List Nat) : Bool := ls.all (fun n => decide (n ≤ 70))

theorem fewB_no {ls : List Nat} {k : Nat} (hk : k < ls.length) (h : 70 < ls.getD k 0) : fewB ls = false := by
  have e : ls.getD k 0 = ls[k] := by simp [List.getD, hk]
  rw [e] at h
  cases hf : fewB ls with
  | false => rfl
  | true =>
    have := List.all_eq_true.1 hf _ (List.getElem_mem hk)
    simp at this; omega
theorem fewB_yes {ls : List Nat} {k : Nat} (hk : ls.length ≤ k) (h : ∀ j, j < k → j < ls.length → ls.getD j 0 ≤ 70) : fewB ls = true := by
  refine List.all_eq_true.2 fun x hx => ?_
  obtain ⟨i, hi, rfl⟩ := List.getElem_of_mem hx
  have := h i (by omega) hi
  simpa [List.getD, hi] using this

set_option maxHeartbeats 400000 in
theorem few_any (b n cap : Nat) (ls : List Nat) (w : World) (hl : ls.length = n) (hn : n ≤ 1000) (hb : ∀ l, l ∈ ls → l ≤ maxLen)
    (hc : ∀ i, i < n → ∃ a c, w.cell? ⟨b, i, none⟩ = some (.slice a (ls.getD i 0) c)) :
    Calls Try.prog 13 #[.slice (some ⟨b, 0, none⟩) n cap] w fun e w' => e = .returned (.bool (fewB ls)) ∧ w' = w := by
  have HL : Hid (ls.length = n) := hl
  clear hl
  go_enter Try.func13, Try.ntmps13
  go_wp2
  go_loopw [3] (fun i wr => ∃ k : Nat, k ≤ n ∧ i = .int .i64 k ∧ (∀ j, j < k → j < ls.length → ls.getD j 0 ≤ 70) ∧ wr = w) (fun i _ => n - (intOf i).toNat)
  case atStart => exact ⟨0, Nat.zero_le _, rfl, fun j hj => by omega, rfl⟩
  case round =>
    obtain ⟨k, hk, rfl, heq, rfl⟩ := hrel
    have HE : Hid (∀ j, j < k → j < ls.length → ls.getD j 0 ≤ 70) := heq
    clear heq
    by_cases hlt : k < n
    · obtain ⟨a, c, hcell⟩ := hc k hlt
      obtain ⟨x, hx⟩ : ∃ x, x = ls.getD k 0 := ⟨_, rfl⟩
      rw [← hx] at hcell
      have hxm : x ≤ maxLen := by
        have hkl : k < ls.length := by have := HL.out; omega
        rw [hx]
        have e : ls.getD k 0 = ls[k] := by simp [List.getD, hkl]
        rw [e]; exact hb _ (List.getElem_mem hkl)
      have HX : Hid (x = ls.getD k 0) := hx
      clear hx hc
      have hlti : (k : Int) < (n : Int) := by omega
      by_cases h70 : x ≤ 70
      · have hd : decide ((70 : Int) < (x : Int)) = false := by simp; omega
        go_wp2
        go_roundw
        case rel =>
          refine ⟨k + 1, by omega, by go_num, fun j h1 h2 => ?_, by first | rfl | trivial⟩
          by_cases hj : j < k
          · exact HE.out j hj h2
          · obtain rfl : j = k := by omega
            rw [← HX.out]; exact h70
        case measure => simp [intOf]; omega
      · have hd : (70 : Int) < (x : Int) := by omega
        go_wp2
        go_ret
        exact ⟨ret_bool (fewB_no (k := k) (by have := HL.out; omega) (by rw [← HX.out]; omega)).symm, rfl⟩
    · go_wp2
      go_ret
      exact ⟨ret_bool (fewB_yes (k := k) (by have := HL.out; omega) HE.out).symm, rfl⟩
end Go.Proofs.Ytnioobiodiofiab

/-
  The contracts of the document's bits and Check.
-/
import Derived.Test.YtambpcgdaogojabGreatRefWit
import Derived.Test.YtambpcgdaogojabGreatRefGcd
import Derived.Test.YtambpcgdaogojabGreatClass
import Derived.Test.YtambpcgdaogojabGreatRefA
import Derived.Test.YtambpcgdaogojabGreatNatD
import Derived.Test.YtambpcgdaogojabGreatModA
namespace Go.Proofs.YtambpcgdaogojabGreat
open Go.RowKit

theorem least_exists (n : Nat) : ∃ d, LeastOf n d := by
  have key : ∀ m, (∀ j, 2 ≤ j → j < m → j * j ≤ n → ¬ j ∣ n) ∨ ∃ d, LeastOf n d := by
    intro m
    induction m with
    | zero => exact .inl fun j _ h => by omega
    | succ m ih =>
      rcases ih with ih | ih
      · by_cases h : 2 ≤ m ∧ m * m ≤ n ∧ m ∣ n
        · refine .inr ⟨m, .inl ⟨h.1, h.2.1, h.2.2, fun j h1 h2 h3 => ih j h1 h2 ?_ h3⟩⟩
          exact Nat.le_trans (Nat.mul_le_mul (by omega) (by omega)) h.2.1
        · refine .inl fun j h1 h2 h3 h4 => ?_
          by_cases e : j = m
          · subst e; exact h ⟨h1, h3, h4⟩
          · exact ih j h1 (by omega) h3 h4
      · exact .inr ih
  rcases key (n + 1) with h | h
  · refine ⟨n, .inr ⟨rfl, fun j h1 h2 => h j h1 ?_ h2⟩⟩
    have := Nat.le_mul_of_pos_left j (show 0 < j by omega)
    omega
  · exact h

theorem small_one {ls : List Int} (hd : Digs 18446744073709551616 ls) (hr : rightB ls = true) : smallZ ls = 1 ↔ val 18446744073709551616 ls = 1 := by
  by_cases hl : ls.length ≤ 1
  · have hv := val_lt_pow (B := 18446744073709551616) (by decide) hd (k := 1) hl
    rw [small_limb hd hr rfl (by omega)]
  · have h0 : smallZ ls = 0 := by unfold smallZ; rw [hr, if_neg (by simp; omega)]
    rw [h0]
    constructor
    · intro h; cases h
    · intro h
      have := len_le (B := 18446744073709551616) (by decide) hd (right_top hr) (k := 1) (by rw [h]; omega)
      omega

theorem bits_limb (n : Nat) : bitsZ (ofZ (n : Int)) = (blN n : Int) := by
  unfold ofZ
  split
  · rename_i h
    obtain rfl : n = 0 := by omega
    decide
  · rename_i h
    have hr : rightB [(n : Int)] = true := by simp [rightB]; omega
    simp [bitsZ, hr, bl, blN]

/-- What is told of whether two numbers are a key. -/
def CheckT (P Q : Nat) (e : Ending) : Prop := (KeyOk P Q ∧ e = .returned (.int .i64 0)) ∨ (¬ KeyOk P Q ∧ e = .returned (.int .i64 9))


end Go.Proofs.YtambpcgdaogojabGreat

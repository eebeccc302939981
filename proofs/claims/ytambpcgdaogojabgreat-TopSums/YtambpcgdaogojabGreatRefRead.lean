/-
  The contract of the document's Read.
-/
import Derived.Test.YtambpcgdaogojabGreatReadB
import Derived.Test.YtambpcgdaogojabGreatRefA
namespace Go.Proofs.YtambpcgdaogojabGreat
open Go.RowKit

theorem rr_one {f : Nat → Int} {ds : List Int} {t : Nat} (hl : ds.length = t) (hv : val 65536 ds = vs 256 f (2 * t)) : val 65536 (ds ++ [f (2 * t)]) = vs 256 f (2 * t + 1) := by
  rw [val_snoc, hl, hv]
  simp only [vs]
  rw [show (65536 : Int) = 256 ^ 2 by decide, ← Int.pow_mul]

theorem rr_two {f : Nat → Int} {ds : List Int} {t : Nat} (hl : ds.length = t) (hv : val 65536 ds = vs 256 f (2 * t)) : val 65536 (ds ++ [f (2 * t) + 256 * f (2 * t + 1)]) = vs 256 f (2 * t + 2) := by
  rw [val_snoc, hl, hv]
  simp only [vs]
  rw [show (65536 : Int) = 256 ^ 2 by decide, ← Int.pow_mul, Int.pow_succ, Int.mul_add, Int.mul_assoc]
  omega

/-- The bytes behind the noughts ahead, the lowest first. -/
theorem rr_val {bs : List Int} {la k : Nat} (hl : bs.length = la) (hk : k ≤ la) (h0 : ∀ j, j < k → bs.getD j 0 = 0) : vs 256 (fun j => bs.getD (la - 1 - j) 0) (la - k) = val 256 bs.reverse := by
  rw [← vs_all 256 bs.reverse (n := (la - k) + k) (by simp; omega), vs_add]
  have e1 : vs 256 (fun i => bs.reverse.getD i 0) (la - k) = vs 256 (fun j => bs.getD (la - 1 - j) 0) (la - k) := vs_congr (fun j hj => getD_reverse hl (by omega))
  have e2 : vs 256 (fun i => bs.reverse.getD (la - k + i) 0) k = 0 := vs_zero _ (fun i hi => by rw [getD_reverse hl (by omega)]; exact h0 _ (by omega))
  rw [e1, e2]; omega

theorem rr_long {bs : List Int} {la k : Nat} (hd : Digs 256 bs) (hl : bs.length = la) (hk : k + 512 < la) (h0 : ∀ j, j < k → bs.getD j 0 = 0) (hne : bs.getD k 0 ≠ 0) : (18446744073709551616 : Int) ^ 64 ≤ val 256 bs.reverse := by
  have e : val 256 bs.reverse = val 256 (bs.drop k).reverse := by
    have h1 : bs = bs.take k ++ bs.drop k := (List.take_append_drop k bs).symm
    have h2 := val_lead (B := 256) (x := bs.take k) (y := bs.drop k) (fun v hv => by
      obtain ⟨i, hi, rfl⟩ := List.getElem_of_mem hv
      simp at hi
      have := h0 i (by omega)
      simpa [List.getD, show i < bs.length by omega] using this)
    rw [← h1] at h2
    exact h2
  rw [e]
  refine read_long (fun x hx => hd x (List.mem_of_mem_drop (List.mem_reverse.1 hx))) (.inr ?_) (by simp; omega)
  rw [List.length_reverse, getD_reverse rfl (by simp; omega)]
  have : (bs.drop k).length - 1 - ((bs.drop k).length - 1) = 0 := by omega
  rw [this]
  simpa [List.getD] using hne

end Go.Proofs.YtambpcgdaogojabGreat

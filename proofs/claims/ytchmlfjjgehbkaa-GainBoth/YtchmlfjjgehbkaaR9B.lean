/-
  The document's reader in memory; contracts of its Left and next.
  The document's reader: Number and Int.
  The document's reader: Bytes.
-/
import Derived.Test.YtchmlfjjgehbkaaC9A
import Derived.Test.YtchmlfjjgehbkaaModA
import Derived.BigQuiet
import Derived.Test.YtchmlfjjgehbkaaC9C
import Derived.Test.YtchmlfjjgehbkaaTapeP
import Derived.Deep.RegionHeld3
namespace Go.Proofs.Ytchmlfjjgehbkaa
open Go.RowKit

theorem take_snoc9 {L : List Int} {k : Nat} (hk : k < L.length) : L.take (k + 1) = L.take k ++ [L.getD k 0] := by
  rw [List.take_add_one]
  simp [List.getD, hk]
theorem drop_cons9 {L : List Int} {k : Nat} (hk : k < L.length) : L = L.take k ++ L.getD k 0 :: L.drop (k + 1) := by
  have e : L.getD k 0 = L[k] := by simp [List.getD, hk]
  rw [e, ← List.drop_eq_getElem_cons hk, List.take_append_drop]
theorem pow128 {k : Nat} (hk : k ≤ 9) : 0 < 128 ^ k ∧ 128 ^ k ≤ 9223372036854775808 := by
  have h : 128 ^ k ≤ 128 ^ 9 := Nat.pow_le_pow_right (by omega) hk
  have e : (128 : Nat) ^ 9 = 9223372036854775808 := by decide
  exact ⟨Nat.pow_pos (by omega), by omega⟩
/-- The number with one digit more. -/
theorem next_bd {L : List Int} {k D : Nat} (hp : Hi (L.take k)) (hk : k ≤ 9) (hL : k < L.length) (hD : D < 128) (h9 : k = 9 → D ≤ 1) : D * 128 ^ k < 18446744073709551616 ∧ loV (L.take k) + D * 128 ^ k < 18446744073709551616 := by
  have h1 := loV_lt hp
  have e : (L.take k).length = k := by simp; omega
  rw [e] at h1
  have h2 := pow128 hk
  rcases Nat.lt_or_ge k 9 with c | c
  · have h3 : 128 ^ k * 128 ≤ 128 ^ 8 * 128 := Nat.mul_le_mul_right 128 (Nat.pow_le_pow_right (by omega) (by omega))
    have e8 : (128 : Nat) ^ 8 * 128 = 9223372036854775808 := by decide
    have h4 : D * 128 ^ k ≤ 127 * 128 ^ k := Nat.mul_le_mul_right _ (by omega)
    omega
  · obtain rfl : k = 9 := by omega
    have e9 : (128 : Nat) ^ 9 = 9223372036854775808 := by decide
    have := h9 rfl
    have h4 : D * 128 ^ 9 ≤ 1 * 128 ^ 9 := Nat.mul_le_mul_right _ (by omega)
    omega

theorem wrap_128 (P : Nat) : IntKind.u64.wrap ((P : Int) * 128) = ((P * 128 % 18446744073709551616 : Nat) : Int) := by
  have e : ∀ z : Int, IntKind.u64.wrap z = z % 18446744073709551616 := fun z => by simp [IntKind.wrap, IntKind.signed, IntKind.bits]
  rw [e]
  omega

/-- What a call tells of what stands next. -/
def NxT (L : List Int) (w : World) (e : Ending) (w' : World) : Prop := ∃ n k : Nat, e = .returned (.tuple #[.int .u64 n, .int .i64 k]) ∧ NextT L n k ∧ Below w.heap.size w w'

end Go.Proofs.Ytchmlfjjgehbkaa

namespace Go.Proofs.Ytchmlfjjgehbkaa
open Go.RowKit

end Go.Proofs.Ytchmlfjjgehbkaa

namespace Go.Proofs.Ytchmlfjjgehbkaa
open Go.RowKit

end Go.Proofs.Ytchmlfjjgehbkaa

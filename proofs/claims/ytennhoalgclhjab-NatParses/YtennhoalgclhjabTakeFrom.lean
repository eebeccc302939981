/-
  The contract of takeFrom: the difference of limbs, in its place.
-/
import Derived.Test.YtennhoalgclhjabAddTo
import Derived.Shelf.Spec.BitsCarry
namespace Go.Proofs.Ytennhoalgclhjab
open Go.RowKit

theorem sub64 (x y b : Int) (hx : 0 ≤ x) (hy : 0 ≤ y) (hy' : y < 18446744073709551616) (hb0 : 0 ≤ b) (hb : b ≤ 1) (w : World) : (callFunc 68 #[.int .u64 x, .int .u64 y, .int .u64 b]).run Try.prog w =
    .ok (.value (.tuple #[.int .u64 (lo (x - y - b)), .int .u64 (bor x y b)])) w := by
  obtain ⟨x, rfl⟩ := Int.eq_ofNat_of_zero_le hx
  obtain ⟨y, rfl⟩ := Int.eq_ofNat_of_zero_le hy
  obtain ⟨b, rfl⟩ := Int.eq_ofNat_of_zero_le hb0
  have e1 : (((x + 18446744073709551616 - y - b) % 18446744073709551616 : Nat) : Int) = lo ((x : Int) - y - b) := by unfold lo; omega
  have e2 : ((if x < y + b then 1 else 0 : Nat) : Int) = bor x y b := by unfold bor; split <;> split <;> omega
  rw [← e1, ← e2, run_callFunc_extern Try.func68 (by kernel_rfl) (by kernel_rfl) (by kernel_rfl) (e := sub64Entry) (by kernel_rfl), run_sub64 x y b (by omega)]
  rfl

theorem take_step {L M : List Int} {o n k : Nat} {ys : List Int} {bw : Int} (hk : k < n) (hon : o + n ≤ L.length) (hml : M.length = L.length) (hmd : Digs 18446744073709551616 M) (hyd : Digs 18446744073709551616 ys)
    (hsame : ∀ j, j < o ∨ o + k ≤ j → M.getD j 0 = L.getD j 0) (hb : 0 ≤ bw ∧ bw ≤ 1)
    (hv : vs 18446744073709551616 (fun i => M.getD (o + i) 0) k - 18446744073709551616 ^ k * bw = vs 18446744073709551616 (fun i => L.getD (o + i) 0) k - vs 18446744073709551616 (fun i => ys.getD i 0) k)
    (x y : Int) (hx : x = M.getD (o + k) 0) (hy : y = ys.getD k 0) :
    (M.set (o + k) (lo (x - y - bw))).length = L.length ∧ Digs 18446744073709551616 (M.set (o + k) (lo (x - y - bw))) ∧
    (∀ j, j < o ∨ o + (k + 1) ≤ j → (M.set (o + k) (lo (x - y - bw))).getD j 0 = L.getD j 0) ∧ (0 ≤ bor x y bw ∧ bor x y bw ≤ 1) ∧
    vs 18446744073709551616 (fun i => (M.set (o + k) (lo (x - y - bw))).getD (o + i) 0) (k + 1) - 18446744073709551616 ^ (k + 1) * bor x y bw = vs 18446744073709551616 (fun i => L.getD (o + i) 0) (k + 1) - vs 18446744073709551616 (fun i => ys.getD i 0) (k + 1) := by
  have bx : 0 ≤ x ∧ x < 18446744073709551616 := by rw [hx]; exact hmd.getD (by decide) _
  have by' : 0 ≤ y ∧ y < 18446744073709551616 := by rw [hy]; exact hyd.getD (by decide) _
  refine ⟨by simpa using hml, hmd.set _ (lo_bd _), fun j hj => ?_, bor_bd _ _ _, ?_⟩
  · rw [getD_set_ne (by omega)]; exact hsame j (by omega)
  · have e1 : vs 18446744073709551616 (fun i => (M.set (o + k) (lo (x - y - bw))).getD (o + i) 0) k = vs 18446744073709551616 (fun i => M.getD (o + i) 0) k :=
      vs_congr (fun i hi => getD_set_ne (by omega))
    have e2 : (M.set (o + k) (lo (x - y - bw))).getD (o + k) 0 = lo (x - y - bw) := getD_set_self (by omega)
    have e3 := hsame (o + k) (by omega)
    simp only [vs]
    rw [e1, e2, ← e3, ← hx, ← hy]
    generalize hP : (18446744073709551616 : Int) ^ k = P at hv ⊢
    have e4 : (18446744073709551616 : Int) ^ (k + 1) = P * 18446744073709551616 := by rw [Int.pow_succ, hP]
    rw [e4, Int.mul_assoc]
    have e5 := lo_bor bx by' hb
    have e6 : P * lo (x - y - bw) - P * (18446744073709551616 * bor x y bw) = P * (x - y - bw) := by rw [← Int.mul_sub, e5]
    rw [Int.mul_sub, Int.mul_sub] at e6
    omega

end Go.Proofs.Ytennhoalgclhjab

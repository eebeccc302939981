/-
  The contract of the document's own division of two numbers.
  Contracts of the document's own moves of bits: by a power of 2, times or divided.
  Contracts of the document's own Shl and Shr.
-/
import Derived.Test.YtaiikhbfnfcalaaRefA
import Derived.Test.YtaiikhbfnfcalaaNatE
import Derived.Deep.DeepCutAuto
import Derived.Deep.CutBlock
import Derived.Test.YtaiikhbfnfcalaaShift
namespace Go.Proofs.Ytaiikhbfnfcalaa
open Go.RowKit

theorem rd_step {L M : List Int} {n k : Nat} {d r q r' : Int} (hk : k < n) (hml : M.length = n) 
    (hv : vs 65536 (fun t => L.getD (k + 1 + t) 0) (n - (k + 1)) = d * vs 65536 (fun t => M.getD (k + 1 + t) 0) (n - (k + 1)) + r) (e : L.getD k 0 + 65536 * r = q * d + r') :
    vs 65536 (fun t => L.getD (k + t) 0) (n - k) = d * vs 65536 (fun t => (M.set k q).getD (k + t) 0) (n - k) + r' := by
  obtain ⟨m, hm⟩ : ∃ m, n - k = m + 1 := ⟨n - k - 1, by omega⟩
  have hm' : n - (k + 1) = m := by omega
  rw [hm, vs_head, vs_head, Nat.add_zero, getD_set_self (by omega)]
  rw [hm'] at hv
  have e1 : vs 65536 (fun t => L.getD (k + (1 + t)) 0) m = vs 65536 (fun t => L.getD (k + 1 + t) 0) m := vs_congr (fun t _ => by rw [Nat.add_assoc])
  have e2 : vs 65536 (fun t => (M.set k q).getD (k + (1 + t)) 0) m = vs 65536 (fun t => M.getD (k + 1 + t) 0) m := vs_congr (fun t _ => by rw [getD_set_ne (by omega), Nat.add_assoc])
  rw [e1, e2, hv, Int.mul_add, Int.mul_add, Int.mul_comm d q, Int.mul_left_comm d]
  omega

theorem Own.one (w : World) (x : Int) : Own (w.alloc (.cells #[.int .u64 x] 61)) w.heap.size (.slice (some ⟨w.heap.size, 0, none⟩) 1 1) [x] :=
  World.ownsRow_lit w #[.int .u64 x] 1 (Nat.le_refl _) (by unfold maxLen; omega) rfl

theorem cmpZ_le {x y : Int} (h : x ≤ y) : cmpZ x y ≤ 0 := by unfold cmpZ; split <;> (try split) <;> omega
theorem cmpZ_nle {x y : Int} (h : ¬ x ≤ y) : ¬ cmpZ x y ≤ 0 := by unfold cmpZ; split <;> (try split) <;> omega

theorem halve {lo hi mid : Int} (h : lo < hi) (hm : mid = (lo + hi + 1) / 2) : lo < mid ∧ mid ≤ hi := by omega

end Go.Proofs.Ytaiikhbfnfcalaa

namespace Go.Proofs.Ytaiikhbfnfcalaa
open Go.RowKit

end Go.Proofs.Ytaiikhbfnfcalaa

namespace Go.Proofs.Ytaiikhbfnfcalaa
open Go.RowKit

theorem power_val (whole : Nat) (y : Int) : val 65536 ((noughts (whole + 1)).set whole y) = 65536 ^ whole * y := by
  have hz : ∀ j, (noughts (whole + 1)).getD j 0 = 0 := fun j => by simp only [noughts, List.getD, List.getElem?_replicate]; split <;> rfl
  have e := vs_set (B := 65536) (M := noughts (whole + 1)) (j := whole) (n := whole + 1) (v := y) (by omega) (by rw [length_noughts]; omega)
  rw [vs_all _ _ (by rw [List.length_set, length_noughts]; omega), vs_zero _ (fun i _ => hz i), hz, Int.sub_zero, Int.zero_add] at e
  exact e

theorem pow16 (whole part : Nat) : (2 : Int) ^ (16 * whole + part) = 65536 ^ whole * 2 ^ part := by rw [Int.pow_add, Int.pow_mul]; congr 1

end Go.Proofs.Ytaiikhbfnfcalaa

namespace Go.Proofs.Ytaiikhbfnfcalaa
open Go.RowKit

theorem shl_one {ls : List Int} {e : Int} (h : ResShl [1] 0 ls e) : ls.length = 1 := by
  have h2 : ResShl [1] 0 [1] 0 := by
    rw [ResShl, if_pos (by decide), if_neg (by decide), if_neg (by decide)]
    exact .inl ⟨rfl, by intro x hx; simp at hx; omega, by simp [Top], by simp, by simp [val]⟩
  rw [(h.unique h2).1]; rfl
end Go.Proofs.Ytaiikhbfnfcalaa

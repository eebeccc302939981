/-
  Contracts of the program's own Is and Least.
-/
import Derived.Test.YtmkohcchgnaboaaDoorPLeast
namespace Go.Proofs.YtmkohcchgnaboaaDoor
open Go.RowKit

set_option maxHeartbeats 400000 in
theorem is_any (n : Nat) (w : World) :
    Calls Tryd.prog 6 #[.int .u64 (n : Int)] w fun e w' => e = .returned (.tuple #[.bool (isB n), .int .i64 (isE n)]) ∧ Below w.heap.size w w' := by
  by_cases h40 : (1099511627776 : Int) ≤ (n : Int)
  · rw [(is_far (n := n) (by omega)).1, (is_far (n := n) (by omega)).2]
    go_enter Tryd.func6, Tryd.ntmps6
    go_wp2
    go_ret2
    exact ⟨rfl, Below.refl _ _⟩
  have d40 : decide ((1099511627776 : Int) ≤ (n : Int)) = false := decide_eq_false h40
  rw [(is_near (n := n) (by omega)).1, (is_near (n := n) (by omega)).2]
  by_cases h2 : (2 : Int) ≤ (n : Int)
  · go_enter Tryd.func6, Tryd.ntmps6
    go_wp2_with fail
    refine (least_any n _ (by omega)).mono ?_
    rintro e w' ⟨d, rfl, hd, hle, hb⟩
    have hpr := hd.isPr (by omega)
    by_cases e : d = n
    · subst e
      have HB : Hid (prB d = true) := prB_of (hpr.1 rfl)
      clear hpr hd
      go_wp2
      go_ret2
      exact ⟨by rw [HB.out]; simp, hb⟩
    · have HB : Hid (prB n = false) := prB_not (fun h => e (hpr.2 h))
      have hne : ((d : Int) == (n : Int)) = false := by simp; omega
      clear hpr hd e
      go_wp2
      go_ret2
      exact ⟨by rw [HB.out]; rfl, hb⟩
  · rw [prB_not (fun h => by have := h.1; omega)]
    have d2 : decide ((2 : Int) ≤ (n : Int)) = false := decide_eq_false h2
    go_enter Tryd.func6, Tryd.ntmps6
    go_wp2
    go_ret2
    exact ⟨rfl, Below.refl _ _⟩
end Go.Proofs.YtmkohcchgnaboaaDoor

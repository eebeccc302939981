/-
  The contracts of the document's May, and of the law's fresh.
-/
import Derived.Test.YtnioobiodiofiabMNew
namespace Go.Proofs.Ytnioobiodiofiab
open Go.RowKit

set_option maxHeartbeats 800000 in
theorem may_any (a : Option Addr) (la ca : Nat) (zs : List Int) (w : World) (h : Nums w a la ca zs) :
    Calls Try.prog 25 #[.slice a la ca] w fun e w' => e = .returned (.bool (mayB zs)) ∧ w' = w := by
  have hl := h.hlen
  have hm := h.hmax
  have hcp := h.hcap
  unfold maxLen at hm
  cases hr : rightB zs with
  | false =>
    have e : mayB zs = false := by simp [mayB, hr]
    rw [e]
    clear e hl
    go_enter Try.func25, Try.ntmps25
    go_wp2_with fail
    refine (refRight_any _ _ _ _ _ h).mono ?_
    rintro e w' ⟨rfl, rfl⟩
    rw [hr]
    go_wp2
    go_ret
    exact ⟨rfl, rfl⟩
  | true =>
  by_cases h0 : la = 0
  · have e : mayB zs = false := by simp [mayB, hl, h0]
    rw [e]
    clear e hl
    subst h0
    go_enter Try.func25, Try.ntmps25
    go_wp2_with fail
    refine (refRight_any _ _ _ _ _ h).mono ?_
    rintro e w' ⟨rfl, rfl⟩
    rw [hr]
    go_wp2
    go_ret
    exact ⟨rfl, rfl⟩
  · have hp : (0 : Int) < (la : Int) := by omega
    by_cases h8 : la ≤ 8
    · obtain ⟨b, off, rfl, hc⟩ := h.cells (by omega)
      obtain ⟨z, hz⟩ : ∃ z, z = zs.getD 0 0 := ⟨_, rfl⟩
      have hc1 : w.cell? ⟨b, off, none⟩ = some (.int .u64 z) := by rw [hz]; have := hc 0 (by omega); simpa using this
      have bz : 0 ≤ z ∧ z < 18446744073709551616 := by rw [hz]; exact h.digs.getD (by decide) _
      have hle : (la : Int) ≤ 8 := by omega
      by_cases ho : z % 2 = 1
      · have ho' : z.tmod 2 = 1 := by rw [Int.tmod_eq_emod_of_nonneg bz.1]; exact ho
        by_cases h1 : 1 < la
        · have e : mayB zs = true := by
            unfold mayB
            rw [hr, hl, ← hz, decide_eq_true ho, decide_eq_true h8, decide_eq_true h1, decide_eq_true (show 0 < la by omega)]; rfl
          rw [e]
          have h1' : (1 : Int) < (la : Int) := by omega
          clear e hl hz hc ho
          go_enter Try.func25, Try.ntmps25
          go_wp2_with fail
          refine (refRight_any _ _ _ _ _ h).mono ?_
          rintro e w' ⟨rfl, rfl⟩
          rw [hr]
          go_wp2
          go_ret
          exact ⟨rfl, rfl⟩
        · obtain rfl : la = 1 := by omega
          have e : mayB zs = decide (1 < z) := by
            unfold mayB
            rw [hr, hl, ← hz, decide_eq_true ho]; simp
          rw [e]
          clear e hl hz hc ho
          go_enter Try.func25, Try.ntmps25
          go_wp2_with fail
          refine (refRight_any _ _ _ _ _ h).mono ?_
          rintro e w' ⟨rfl, rfl⟩
          rw [hr]
          go_wp2
          go_ret
          exact ⟨rfl, rfl⟩
      · have ho' : z.tmod 2 = 0 := by rw [Int.tmod_eq_emod_of_nonneg bz.1]; omega
        have e : mayB zs = false := by
          have : zs.getD 0 0 % 2 ≠ 1 := by rw [← hz]; exact ho
          simp only [mayB, decide_eq_false this]; simp
        rw [e]
        clear e hl hz hc ho
        go_enter Try.func25, Try.ntmps25
        go_wp2_with fail
        refine (refRight_any _ _ _ _ _ h).mono ?_
        rintro e w' ⟨rfl, rfl⟩
        rw [hr]
        go_wp2
        go_ret
        exact ⟨rfl, rfl⟩
    · have e : mayB zs = false := by simp [mayB, hl, h8]
      rw [e]
      have hd : decide ((la : Int) ≤ 8) = false := by simp; omega
      clear e hl
      go_enter Try.func25, Try.ntmps25
      go_wp2_with fail
      refine (refRight_any _ _ _ _ _ h).mono ?_
      rintro e w' ⟨rfl, rfl⟩
      rw [hr]
      go_wp2
      go_ret
      exact ⟨rfl, rfl⟩

set_option maxHeartbeats 800000 in
theorem fresh_any (a : Option Addr) (la ca : Nat) (zs : List Int) (w : World) (h : Nums w a la ca zs) :
    Calls Try.prog 8 #[.slice a la ca] w fun e w' => (mayB zs = false ∧ e = .returned (.tuple #[.pointer none, .bool true]) ∨
      mayB zs = true ∧ ∃ g f qs, e = .returned (.tuple #[.pointer (some ⟨g, 0, none⟩), .bool true]) ∧ RingAt w' (some ⟨g, 0, none⟩) zs f qs ∧ RingOk zs f qs) ∧ Below w.heap.size w w' := by
  go_enter Try.func8, Try.ntmps8
  go_wp2_with fail
  refine (new_any _ _ _ _ _ h).mono ?_
  rintro e w1 ⟨⟨hm, rfl⟩ | ⟨hm, g, f, qs, rfl, hR, hO⟩, hb⟩
  · go_wp2_with fail
    refine (may_any _ _ _ _ _ (h.below hb)).mono ?_
    rintro e w' ⟨rfl, rfl⟩
    rw [hm]
    go_wp2
    go_ret2
    exact ⟨.inl ⟨hm, rfl⟩, hb⟩
  · go_wp2_with fail
    refine (may_any _ _ _ _ _ (h.below hb)).mono ?_
    rintro e w' ⟨rfl, rfl⟩
    rw [hm]
    go_wp2
    go_ret2
    exact ⟨.inr ⟨hm, g, f, qs, rfl, hR, hO⟩, hb⟩
end Go.Proofs.Ytnioobiodiofiab

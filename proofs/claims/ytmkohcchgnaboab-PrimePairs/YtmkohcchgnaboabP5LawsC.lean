/-
  The walk of stage 5's law on keys, from the contract of the program's own Check.
-/
import Derived.Test.YtmkohcchgnaboabRefCheck
namespace Go.Proofs.Ytmkohcchgnaboab
open Go.RowKit

/-- The program tells of two numbers whether they are a key. -/
def CheckOk : Prop := ∀ (P Q : Nat) (w : World), P < 18446744073709551616 → Q < 18446744073709551616 → Calls Try.prog 5 #[.agg #[.int .u64 (P : Int), .int .u64 (Q : Int)]] w fun e w' => CheckT P Q e ∧ Below w.heap.size w w'

theorem CheckT.same {P Q : Nat} {e f : Ending} (h : CheckT P Q e) (h' : CheckT P Q f) : ∃ err, e = .returned (.int .i64 err) ∧ f = .returned (.int .i64 err) := by
  rcases h with ⟨h, rfl⟩ | ⟨h, rfl⟩ <;> rcases h' with ⟨h', rfl⟩ | ⟨h', rfl⟩
  all_goals first | exact ⟨_, rfl, rfl⟩ | exact absurd h h' | exact absurd h' h

set_option maxHeartbeats 1600000 in
theorem checks_walk (hC : CheckOk) (P Q : Nat) (w : World) (hP : P < 18446744073709551616) (hQ : Q < 18446744073709551616) :
    Calls Try.prog 3 #[.agg #[.int .u64 (P : Int), .int .u64 (Q : Int)]] w fun e w' => e = .returned (.bool true) ∧ Below w.heap.size w w' := by
  have H1 : Hid (∀ wx : World, Calls Try.prog 5 #[.agg #[.int .u64 131, .int .u64 131]] wx fun e w' => e = .returned (.int .i64 9) ∧ Below wx.heap.size wx w') := fun wx =>
    (hC 131 131 wx (by decide) (by decide)).mono (by
      rintro e w' ⟨h | h, hb⟩
      · exact absurd rfl h.1.2.2.2.2.1
      · exact ⟨h.2, hb⟩)
  have hV := (Below.refl w.heap.size w).alloc (Nat.le_refl _) (.cells #[.int .u64 (P : Int), .int .u64 (Q : Int)] 24)
  have c0 : (w.alloc (.cells #[.int .u64 (P : Int), .int .u64 (Q : Int)] 24)).cell? ⟨w.heap.size, 0, none⟩ = some (.int .u64 (P : Int)) := by simp
  have c1 : (w.alloc (.cells #[.int .u64 (P : Int), .int .u64 (Q : Int)] 24)).cell? ⟨w.heap.size, 1, none⟩ = some (.int .u64 (Q : Int)) := by simp
  go_enter Try.func3, Try.ntmps3
  go_wp2_with fail
  generalize w.alloc (.cells #[.int .u64 (P : Int), .int .u64 (Q : Int)] 24) = V at *
  refine (H1.out _).mono ?_
  rintro e w1 ⟨rfl, hb1⟩
  have hB1 := hV.trans (hb1.mono hV.size)
  replace c0 := bkeep hb1 c0 rfl
  replace c1 := bkeep hb1 c1 rfl
  clear H1 hV hb1
  go_wp2_with fail
  refine (hC P Q _ hP hQ).mono ?_
  rintro e w2 ⟨h2, hb2⟩
  obtain ⟨x, rfl, -⟩ := h2.same h2
  have HC2 : Hid (CheckT P Q (.returned (.int .i64 x))) := h2
  have hB2 := hB1.trans (hb2.mono hB1.size)
  replace c0 := bkeep hb2 c0 rfl
  replace c1 := bkeep hb2 c1 rfl
  clear h2 hB1 hb2 hC
  go_wp2_with fail
  refine (rcheck_any P Q _ hP hQ).mono ?_
  rintro e w3 ⟨h3, hb3⟩
  have hB3 := hB2.trans (hb3.mono hB2.size)
  obtain ⟨x', rfl, h4⟩ := h3.same HC2.out
  obtain rfl : x = x' := by simpa using h4
  clear h3 h4 HC2 hb3 hB2 c0 c1
  go_wp2
  go_ret
  exact ⟨by simp, hB3⟩
end Go.Proofs.Ytmkohcchgnaboab

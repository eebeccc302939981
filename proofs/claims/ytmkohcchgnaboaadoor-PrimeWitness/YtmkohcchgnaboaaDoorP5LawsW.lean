/-
  Walks of stage 5's laws on witnesses, from the contracts of the program's own functions.
-/
import Derived.Test.YtmkohcchgnaboaaDoorP5LawsA
import Derived.Test.YtmkohcchgnaboaaDoorPWit
namespace Go.Proofs.YtmkohcchgnaboaaDoor
open Go.RowKit

/-- The program tells of a number whether it is a witness. -/
def WitOk : Prop := ∀ (a n : Nat) (w : World), Tab w → a < 18446744073709551616 → n < 18446744073709551616 → Calls Tryd.prog 5 #[.int .u64 (a : Int), .int .u64 (n : Int)] w fun e w' => WitT a n e ∧ Below w.heap.size w w'

theorem wit_nine {e : Ending} (h : WitT 2 9 e) : e = .returned (.tuple #[.bool true, .int .i64 0]) := by
  have hw : Wit 2 9 := ⟨1, 3, by decide, by decide, by decide, by decide⟩
  rcases h with ⟨h, _⟩ | ⟨_, _, h⟩ | ⟨_, h, _⟩
  · omega
  · exact h
  · exact absurd hw h

/-- The answer and the error of a witness. -/
theorem WitT.same {a n : Nat} {e f : Ending} (h : WitT a n e) (h' : WitT a n f) : ∃ b err, e = .returned (.tuple #[.bool b, .int .i64 err]) ∧ f = .returned (.tuple #[.bool b, .int .i64 err]) := by
  rcases h with ⟨h, rfl⟩ | ⟨h, k, rfl⟩ | ⟨h, k, rfl⟩ <;> rcases h' with ⟨h', rfl⟩ | ⟨h', k', rfl⟩ | ⟨h', k', rfl⟩
  all_goals first | exact ⟨_, _, rfl, rfl⟩ | exact absurd h h' | exact absurd h' h | exact absurd k k' | exact absurd k' k

set_option maxHeartbeats 800000 in
theorem witness_walk (hW : WitOk) (a n : Nat) (w : World) (hT : Tab w) (ha : a < 18446744073709551616) (hn : n < 18446744073709551616) :
    Calls Tryd.prog 4 #[.int .u64 (a : Int), .int .u64 (n : Int)] w fun e w' => e = .returned (.bool true) ∧ Below w.heap.size w w' := by
  have H9 : Hid (∀ wx : World, Tab wx → Calls Tryd.prog 5 #[.int .u64 2, .int .u64 9] wx fun e w' => e = .returned (.tuple #[.bool true, .int .i64 0]) ∧ Below wx.heap.size wx w') := fun wx hx =>
    (hW 2 9 wx hx (by decide) (by decide)).mono (by rintro e w' ⟨h, hb⟩; exact ⟨wit_nine h, hb⟩)
  go_enter Tryd.func4, Tryd.ntmps4
  go_wp2_with fail
  refine (H9.out _ hT).mono ?_
  rintro e w1 ⟨rfl, hb1⟩
  go_wp2_with fail
  refine (hW a n _ (hT.below hb1) ha hn).mono ?_
  rintro e w2 ⟨h2, hb2⟩
  have hB := hb1.trans (hb2.mono hb1.size)
  obtain ⟨b, x, rfl, -⟩ := h2.same h2
  have HW2 : Hid (WitT a n (.returned (.tuple #[.bool b, .int .i64 x]))) := h2
  clear h2
  go_wp2_with fail
  refine (rWit_any a n _ ha).mono ?_
  rintro e w3 ⟨h3, hb3⟩
  have hB3 := hB.trans (hb3.mono hB.size)
  obtain ⟨b', x', rfl, h4⟩ := h3.same HW2.out
  obtain ⟨rfl, rfl⟩ : b = b' ∧ x = x' := by simpa using h4
  clear H9 hW hb1 hb2 hb3 hB h3 h4 HW2
  go_wp2
  go_ret
  exact ⟨by simp, hB3⟩
theorem honest_end {a n : Nat} {b : Bool} {x : Int} (h : WitT a n (.returned (.tuple #[.bool b, .int .i64 x]))) (hx : x = 0) : (isB n && b) = false := by
  subst hx
  rcases h with ⟨_, h⟩ | ⟨hc, hw, h⟩ | ⟨_, _, h⟩
  · simp at h
  · have hnp : ¬ Pr n := fun hp => honest hp (by omega) hw
    simp [isB, prB_not hnp]
  · have : b = false := by simpa using h
    simp [this]

set_option maxHeartbeats 1600000 in
theorem honest_walk (hI : IsOk) (hW : WitOk) (a n : Nat) (w : World) (hT : Tab w) (ha : a < 18446744073709551616) (hn : n < 18446744073709551616) :
    Calls Tryd.prog 3 #[.int .u64 (a : Int), .int .u64 (n : Int)] w fun e w' => e = .returned (.bool true) ∧ Below w.heap.size w w' := by
  have H9 : Hid (∀ wx : World, Tab wx → Calls Tryd.prog 5 #[.int .u64 2, .int .u64 9] wx fun e w' => e = .returned (.tuple #[.bool true, .int .i64 0]) ∧ Below wx.heap.size wx w') := fun wx hx =>
    (hW 2 9 wx hx (by decide) (by decide)).mono (by rintro e w' ⟨h, hb⟩; exact ⟨wit_nine h, hb⟩)
  have H : Hid (∀ wx : World, Calls Tryd.prog 6 #[.int .u64 (n : Int)] wx fun e w' => e = .returned (.tuple #[.bool (isB n), .int .i64 (isE n)]) ∧ Below wx.heap.size wx w') := fun wx => hI n wx hn
  have HE : Hid (∀ b x, WitT a n (.returned (.tuple #[.bool b, .int .i64 x])) → x = 0 → (isB n && b) = false) := fun b x h => honest_end h
  clear hI
  generalize isB n = c at *
  generalize isE n = y at *
  go_enter Tryd.func3, Tryd.ntmps3
  go_wp2_with fail
  refine (H9.out _ hT).mono ?_
  rintro e w1 ⟨rfl, hb1⟩
  go_wp2_with fail
  refine (H.out _).mono ?_
  rintro e w2 ⟨rfl, hb2⟩
  have hB := hb1.trans (hb2.mono hb1.size)
  go_wp2_with fail
  refine (hW a n _ (hT.below hB) ha hn).mono ?_
  rintro e w3 ⟨h3, hb3⟩
  have hB3 := hB.trans (hb3.mono hB.size)
  obtain ⟨b, x, rfl, -⟩ := h3.same h3
  have HE3 := (show Hid _ from HE.out b x h3)
  clear h3 H9 H HE hW hb1 hb2 hb3 hB
  by_cases hy : y = 0
  · subst hy
    by_cases hx : x = 0
    · have hcb := HE3.out hx
      subst hx
      clear HE3
      cases c <;> cases b <;> simp at hcb <;> (go_wp2; go_ret; exact ⟨rfl, hB3⟩)
    · have hxd : (x != 0) = true := by simp [hx]
      clear HE3
      go_wp2
      go_ret
      exact ⟨rfl, hB3⟩
  · have hyd : (y != 0) = true := by simp [hy]
    clear HE3
    go_wp2
    go_ret
    exact ⟨rfl, hB3⟩
end Go.Proofs.YtmkohcchgnaboaaDoor

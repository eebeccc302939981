/-
  The walk of the law on what is made of any two numbers.
-/
import Derived.Test.YtfeapegdaffckaaP8LawsO
import Derived.BigQuiet
import Derived.Deep.RegionHeld3
namespace Go.Proofs.Ytfeapegdaffckaa
open Go.RowKit

set_option maxRecDepth 20000 in
set_option maxHeartbeats 6400000 in
theorem makes_walk (hM : MakOk8) (hR : RgtOk8) (n : Bool) (a b : Option Addr) (la ca lb cb : Nat) (xs ys : List Int) (w : World) (h1 : Nums w a la ca xs) (h2 : Nums w b lb cb ys) :
    Calls Try.prog 3 #[.agg #[.bool n, .slice a la ca, .slice b lb cb]] w fun e w' => e = .returned (.bool true) ∧ Below w.heap.size w w' := by
  obtain ⟨V, hVe⟩ : ∃ V, V = w.alloc (.cells #[.bool n, .slice a la ca, .slice b lb cb] 27) := ⟨_, rfl⟩
  have hV := balloc w (.cells #[.bool n, .slice a la ca, .slice b lb cb] 27)
  have CA := Cell3.new w n a b la ca lb cb
  have hz : V.heap.size = w.heap.size + 1 := by rw [hVe]; simp
  rw [← hVe] at hV CA
  have HVe : Hid (V = w.alloc (.cells #[.bool n, .slice a la ca, .slice b lb cb] 27)) := hVe
  replace h1 := h1.below hV
  replace h2 := h2.below hV
  have HF := (show Hid _ from few8_one n _ _ _ _ _ _ _ _ V h1 h2)
  have HZ : Hid (V.heap.size = w.heap.size + 1) := hz
  clear hVe hz
  obtain ⟨c0, c1, c2, -, -, -⟩ := CA
  go_enter Try.func3, Try.ntmps3
  go_wp2_with fail
  rw [← HVe.out, ← HZ.out]
  refine Calls.mono HF.out ?_
  rintro e w1 ⟨q, rfl, hb1⟩
  have hB1 := bthen hV hb1
  replace h1 := h1.below hb1
  replace h2 := h2.below hb1
  replace c0 := bkeep hb1 c0 rfl
  replace c1 := bkeep hb1 c1 rfl
  replace c2 := bkeep hb1 c2 rfl
  clear HF HVe HZ hb1 hV
  cases q with
  | false =>
    clear h1 h2
    go_wp2
    go_ret
    exact ⟨rfl, hB1⟩
  | true =>
    go_wp2_with fail
    refine (awake8_any hM _).mono ?_
    rintro e w2 ⟨rfl, hb2⟩
    have hB2 := bthen hB1 hb2
    replace h1 := h1.below hb2
    replace h2 := h2.below hb2
    replace c0 := bkeep hb2 c0 rfl
    replace c1 := bkeep hb2 c1 rfl
    replace c2 := bkeep hb2 c2 rfl
    clear hB1 hb2
    go_wp2_with fail
    refine (hM n _ _ _ _ _ _ _ _ _ h1 h2).mono ?_
    rintro e y3 ⟨m3, p3, l3, k3, q3, j3, i3, s3, r3, f3, rfl, ⟨U3, X3⟩, t3, z3⟩
    have a3 := balloc y3 (.cells #[.bool m3, .slice p3 l3 k3, .slice q3 j3 i3] 27)
    have v3 := bthen z3 a3
    have hB3 := bthen hB2 v3
    have C3 := Cell3.new y3 m3 p3 q3 l3 k3 j3 i3
    replace U3 := U3.below a3
    replace X3 := X3.below a3
    replace h1 := h1.below v3
    replace h2 := h2.below v3
    replace c0 := bkeep v3 c0 rfl
    replace c1 := bkeep v3 c1 rfl
    replace c2 := bkeep v3 c2 rfl
    obtain ⟨d30, d31, d32, g30, g31, g32⟩ := C3
    clear hB2 z3 a3 v3
    go_wp2_with fail
    generalize y3.alloc (.cells #[.bool m3, .slice p3 l3 k3, .slice q3 j3 i3] 27) = W3 at *
    generalize y3.heap.size = G3 at *
    refine (r8make_any n _ _ _ _ _ _ _ _ _ h1 h2).mono ?_
    rintro e y4 ⟨m4, p4, l4, k4, q4, j4, i4, s4, r4, f4, rfl, ⟨U4, X4⟩, t4, z4⟩
    obtain ⟨rfl, rfl, rfl, rfl⟩ := t3.unique t4
    have a4 := balloc y4 (.cells #[.bool m3, .slice p4 l4 k4, .slice q4 j4 i4] 27)
    have v4 := bthen z4 a4
    have hB4 := bthen hB3 v4
    obtain ⟨d40, d41, d42, -, -, -⟩ := Cell3.new y4 m3 p4 q4 l4 k4 j4 i4
    replace U4 := U4.below a4
    replace X4 := X4.below a4
    replace U3 := U3.below v4
    replace X3 := X3.below v4
    replace d30 := bkeep v4 d30 rfl
    replace d31 := bkeep v4 d31 rfl
    replace d32 := bkeep v4 d32 rfl
    replace h1 := h1.below v4
    replace h2 := h2.below v4
    replace c0 := bkeep v4 c0 rfl
    replace c1 := bkeep v4 c1 rfl
    replace c2 := bkeep v4 c2 rfl
    have HS := (show Hid _ from r8same_eq m3 _ _ _ _ _ _ _ _ _ _ _ _ _ _ _ U3 X3 U4 X4)
    clear z4 a4 v4 hB3 t3 t4 g30 g31 g32
    go_wp2_with fail
    refine Calls.mono HS.out ?_
    rintro e w5 ⟨rfl, hb5⟩
    have hB5 := bthen hB4 hb5
    replace h1 := h1.below hb5
    replace h2 := h2.below hb5
    replace c0 := bkeep hb5 c0 rfl
    replace c1 := bkeep hb5 c1 rfl
    replace c2 := bkeep hb5 c2 rfl
    clear HS hB4 hb5 U3 X3 U4 X4 d30 d31 d32 d40 d41 d42 hM
    have HRB : Hid (Below w5.heap.size w5 w5) := Below.refl _ _
    have HR1 : Hid (∀ wx : World, Below w5.heap.size w5 wx → Calls Try.prog 13 #[.agg #[.bool n, .slice a la ca, .slice b lb cb]] wx fun e w' => e = .returned (.bool (rightF n xs ys)) ∧ Hid (Below w5.heap.size w5 w') ∧ (w'.cell? ⟨w.heap.size, 0, none⟩ = some (.bool n) ∧ w'.cell? ⟨w.heap.size, 1, none⟩ = some (.slice a la ca) ∧ w'.cell? ⟨w.heap.size, 2, none⟩ = some (.slice b lb cb))) := by
      intro wx hbx
      refine (hR n _ _ _ _ _ _ _ _ wx (h1.below hbx) (h2.below hbx)).mono ?_
      rintro e w' ⟨rfl, hb⟩
      have hb' := bthen hbx hb
      exact ⟨rfl, hb', bkeep hb' c0 rfl, bkeep hb' c1 rfl, bkeep hb' c2 rfl⟩
    have HR2 : Hid (∀ wx : World, Below w5.heap.size w5 wx → Calls Try.prog 14 #[.agg #[.bool n, .slice a la ca, .slice b lb cb]] wx fun e w' => e = .returned (.bool (rightF n xs ys)) ∧ Hid (Below w5.heap.size w5 w') ∧ (w'.cell? ⟨w.heap.size, 0, none⟩ = some (.bool n) ∧ w'.cell? ⟨w.heap.size, 1, none⟩ = some (.slice a la ca) ∧ w'.cell? ⟨w.heap.size, 2, none⟩ = some (.slice b lb cb))) := by
      intro wx hbx
      refine (r8right_any n _ _ _ _ _ _ _ _ wx (h1.below hbx) (h2.below hbx)).mono ?_
      rintro e w' ⟨rfl, hb⟩
      have hb' := bthen hbx hb
      exact ⟨rfl, hb', bkeep hb' c0 rfl, bkeep hb' c1 rfl, bkeep hb' c2 rfl⟩
    obtain ⟨rb, hrb⟩ : ∃ rb, rb = rightF n xs ys := ⟨_, rfl⟩
    rw [← hrb] at HR1 HR2
    clear hrb hR h1 h2
    go_wp2_with fail
    go_region_held3 (fun w' => (w'.cell? ⟨w.heap.size, 0, none⟩ = some (.bool n) ∧ w'.cell? ⟨w.heap.size, 1, none⟩ = some (.slice a la ca) ∧ w'.cell? ⟨w.heap.size, 2, none⟩ = some (.slice b lb cb))) (first | go_keep | exact n6 | exact o6)
      (first
      | (go_at_call 13; with_reducible refine Calls.mono (HR1.out _ ?_) ?_; (focus (repeat (first | exact HRB.out | refine bdrawD ?_ | refine bgrowD ?_ _))); rintro e w6 ⟨rfl, hb6, n6⟩)
      | (go_at_call 14; with_reducible refine Calls.mono (HR2.out _ ?_) ?_; (exact hb6.out); rintro e w7 ⟨rfl, hb7, o6⟩))
    all_goals
      clear HR1 HR2 HRB
      go_wp2_with fail
      go_ret
      exact ⟨by simp, bthen hB5 hb7.out⟩
end Go.Proofs.Ytfeapegdaffckaa

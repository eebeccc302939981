/-
  The walk of the law on which one of two fractions is the greater one.
-/
import Derived.Test.YtfeapegdaffckaaP8LawsO
import Derived.BigQuiet
import Derived.Deep.RegionHeld3
namespace Go.Proofs.Ytfeapegdaffckaa
open Go.RowKit

set_option maxRecDepth 20000 in
set_option maxHeartbeats 6400000 in
theorem compares_walk (hM : MakOk8) (hFl : FlrOk8) (hC : CmpOk8) (n m : Bool) (a b c d : Option Addr) (la ca lb cb lc cc ld cd : Nat) (xs ys us vs : List Int) (w : World) (h1 : Nums w a la ca xs) (h2 : Nums w b lb cb ys) (h3 : Nums w c lc cc us) (h4 : Nums w d ld cd vs) :
    Calls Try.prog 4 #[.agg #[.bool n, .slice a la ca, .slice b lb cb], .agg #[.bool m, .slice c lc cc, .slice d ld cd]] w fun e w' => e = .returned (.bool true) ∧ Below w.heap.size w w' := by
  obtain ⟨V, hVe⟩ : ∃ V, V = (w.alloc (.cells #[.bool n, .slice a la ca, .slice b lb cb] 27)).alloc (.cells #[.bool m, .slice c lc cc, .slice d ld cd] 27) := ⟨_, rfl⟩
  have hv1 := balloc w (.cells #[.bool n, .slice a la ca, .slice b lb cb] 27)
  have hv2 := balloc (w.alloc (.cells #[.bool n, .slice a la ca, .slice b lb cb] 27)) (.cells #[.bool m, .slice c lc cc, .slice d ld cd] 27)
  have hV := bthen hv1 hv2
  have CA := (Cell3.new w n a b la ca lb cb).below hv2
  have CB := Cell3.new (w.alloc (.cells #[.bool n, .slice a la ca, .slice b lb cb] 27)) m c d lc cc ld cd
  rw [World.size_alloc] at CB
  have hz : V.heap.size = w.heap.size + 1 + 1 := by rw [hVe]; simp
  rw [← hVe] at hV CA CB
  have HVe : Hid (V = (w.alloc (.cells #[.bool n, .slice a la ca, .slice b lb cb] 27)).alloc (.cells #[.bool m, .slice c lc cc, .slice d ld cd] 27)) := hVe
  replace h1 := h1.below hV
  replace h2 := h2.below hV
  replace h3 := h3.below hV
  replace h4 := h4.below hV
  have HF := (show Hid _ from few8_two n m _ _ _ _ _ _ _ _ _ _ _ _ _ _ _ _ V h1 h2 h3 h4)
  have HZ : Hid (V.heap.size = w.heap.size + 1 + 1) := hz
  clear hv1 hv2 hVe hz
  obtain ⟨c0, c1, c2, -, -, -⟩ := CA
  obtain ⟨e0, e1, e2, -, -, -⟩ := CB
  go_enter Try.func4, Try.ntmps4
  go_wp2_with fail
  rw [← HVe.out, ← HZ.out]
  refine Calls.mono HF.out ?_
  rintro e w1 ⟨q, rfl, hb1⟩
  have hB1 := bthen hV hb1
  replace h1 := h1.below hb1
  replace h2 := h2.below hb1
  replace h3 := h3.below hb1
  replace h4 := h4.below hb1
  replace c0 := bkeep hb1 c0 rfl
  replace c1 := bkeep hb1 c1 rfl
  replace c2 := bkeep hb1 c2 rfl
  replace e0 := bkeep hb1 e0 rfl
  replace e1 := bkeep hb1 e1 rfl
  replace e2 := bkeep hb1 e2 rfl
  clear HF HVe HZ hb1 hV
  cases q with
  | false =>
    clear h1 h2 h3 h4
    go_wp2
    go_ret
    exact ⟨rfl, hB1⟩
  | true =>
    go_wp2_with fail
    refine (awake8_any hM _).mono ?_
    rintro e w2 ⟨rfl, hb2⟩
    have hB2 := bthen hB1 hb2
    replace h1 := h1.below hb2
    replace h2 := h2.below hb2
    replace h3 := h3.below hb2
    replace h4 := h4.below hb2
    replace c0 := bkeep hb2 c0 rfl
    replace c1 := bkeep hb2 c1 rfl
    replace c2 := bkeep hb2 c2 rfl
    replace e0 := bkeep hb2 e0 rfl
    replace e1 := bkeep hb2 e1 rfl
    replace e2 := bkeep hb2 e2 rfl
    clear hB1 hb2
    go_wp2_with fail
    refine (hFl n _ _ _ _ _ _ _ _ _ h1 h2).mono ?_
    rintro e y3 ⟨m3, p3, l3, k3, s3, f3, rfl, U3, t3, z3⟩
    have a3 := balloc y3 (.cells #[.bool m3, .slice p3 l3 k3] 25)
    have v3 := bthen z3 a3
    have hB3 := bthen hB2 v3
    obtain ⟨d30, d31, -, -⟩ := Cell2.new y3 m3 p3 l3 k3
    replace U3 := U3.below a3
    replace h1 := h1.below v3
    replace h2 := h2.below v3
    replace h3 := h3.below v3
    replace h4 := h4.below v3
    replace c0 := bkeep v3 c0 rfl
    replace c1 := bkeep v3 c1 rfl
    replace c2 := bkeep v3 c2 rfl
    replace e0 := bkeep v3 e0 rfl
    replace e1 := bkeep v3 e1 rfl
    replace e2 := bkeep v3 e2 rfl
    clear hB2 z3 a3 v3 hFl hM
    go_wp2_with fail
    generalize y3.alloc (.cells #[.bool m3, .slice p3 l3 k3] 25) = W3 at *
    generalize y3.heap.size = G3 at *
    refine (r8floor_any n _ _ _ _ _ _ _ _ _ h1 h2).mono ?_
    rintro e y4 ⟨m4, p4, l4, k4, s4, f4, rfl, U4, t4, z4⟩
    obtain ⟨rfl, rfl, rfl⟩ := t3.unique t4
    have a4 := balloc y4 (.cells #[.bool m3, .slice p4 l4 k4] 25)
    have v4 := bthen z4 a4
    have hB4 := bthen hB3 v4
    obtain ⟨d40, d41, -, -⟩ := Cell2.new y4 m3 p4 l4 k4
    replace U4 := U4.below a4
    replace U3 := U3.below v4
    replace d30 := bkeep v4 d30 rfl
    replace d31 := bkeep v4 d31 rfl
    replace h1 := h1.below v4
    replace h2 := h2.below v4
    replace h3 := h3.below v4
    replace h4 := h4.below v4
    replace c0 := bkeep v4 c0 rfl
    replace c1 := bkeep v4 c1 rfl
    replace c2 := bkeep v4 c2 rfl
    replace e0 := bkeep v4 e0 rfl
    replace e1 := bkeep v4 e1 rfl
    replace e2 := bkeep v4 e2 rfl
    have HS := (show Hid _ from isame_eq _ m3 _ _ _ _ _ _ _ _ U3 U4 (Below.refl _ _))
    clear hB3 z4 a4 v4 t3 t4
    go_wp2_with fail
    refine Calls.mono HS.out ?_
    rintro e w5 ⟨rfl, hb5⟩
    have hB5 := bthen hB4 hb5
    replace h1 := h1.below hb5
    replace h2 := h2.below hb5
    replace h3 := h3.below hb5
    replace h4 := h4.below hb5
    replace c0 := bkeep hb5 c0 rfl
    replace c1 := bkeep hb5 c1 rfl
    replace c2 := bkeep hb5 c2 rfl
    replace e0 := bkeep hb5 e0 rfl
    replace e1 := bkeep hb5 e1 rfl
    replace e2 := bkeep hb5 e2 rfl
    clear HS hB4 hb5 U3 U4 d30 d31 d40 d41
    have HRB : Hid (Below w5.heap.size w5 w5) := Below.refl _ _
    obtain ⟨rb, hrb⟩ : ∃ rb, rb = cmpFF n xs ys m us vs := ⟨_, rfl⟩
    have HR1 : Hid (∀ wx : World, Below w5.heap.size w5 wx → Calls Try.prog 18 #[.agg #[.bool n, .slice a la ca, .slice b lb cb], .agg #[.bool m, .slice c lc cc, .slice d ld cd]] wx fun e w' => e = .returned (.int .i64 rb) ∧ Hid (Below w5.heap.size w5 w') ∧ (w'.cell? ⟨w.heap.size, 0, none⟩ = some (.bool n) ∧ w'.cell? ⟨w.heap.size, 1, none⟩ = some (.slice a la ca) ∧ w'.cell? ⟨w.heap.size, 2, none⟩ = some (.slice b lb cb) ∧ w'.cell? ⟨w.heap.size + 1, 0, none⟩ = some (.bool m) ∧ w'.cell? ⟨w.heap.size + 1, 1, none⟩ = some (.slice c lc cc) ∧ w'.cell? ⟨w.heap.size + 1, 2, none⟩ = some (.slice d ld cd))) := by
      intro wx hbx
      refine (hC n m _ _ _ _ _ _ _ _ _ _ _ _ _ _ _ _ wx (h1.below hbx) (h2.below hbx) (h3.below hbx) (h4.below hbx)).mono ?_
      rintro e w' ⟨rfl, hb⟩
      have hb' := bthen hbx hb
      exact ⟨by rw [hrb], hb', ⟨bkeep hb' c0 rfl, bkeep hb' c1 rfl, bkeep hb' c2 rfl, bkeep hb' e0 rfl, bkeep hb' e1 rfl, bkeep hb' e2 rfl⟩⟩
    have HR2 : Hid (∀ wx : World, Below w5.heap.size w5 wx → Calls Try.prog 19 #[.agg #[.bool n, .slice a la ca, .slice b lb cb], .agg #[.bool m, .slice c lc cc, .slice d ld cd]] wx fun e w' => e = .returned (.int .i64 rb) ∧ Hid (Below w5.heap.size w5 w') ∧ (w'.cell? ⟨w.heap.size, 0, none⟩ = some (.bool n) ∧ w'.cell? ⟨w.heap.size, 1, none⟩ = some (.slice a la ca) ∧ w'.cell? ⟨w.heap.size, 2, none⟩ = some (.slice b lb cb) ∧ w'.cell? ⟨w.heap.size + 1, 0, none⟩ = some (.bool m) ∧ w'.cell? ⟨w.heap.size + 1, 1, none⟩ = some (.slice c lc cc) ∧ w'.cell? ⟨w.heap.size + 1, 2, none⟩ = some (.slice d ld cd))) := by
      intro wx hbx
      refine (r8cmp_any n m _ _ _ _ _ _ _ _ _ _ _ _ _ _ _ _ wx (h1.below hbx) (h2.below hbx) (h3.below hbx) (h4.below hbx)).mono ?_
      rintro e w' ⟨rfl, hb⟩
      have hb' := bthen hbx hb
      exact ⟨by rw [hrb], hb', ⟨bkeep hb' c0 rfl, bkeep hb' c1 rfl, bkeep hb' c2 rfl, bkeep hb' e0 rfl, bkeep hb' e1 rfl, bkeep hb' e2 rfl⟩⟩
    clear hrb hC h1 h2 h3 h4
    go_wp2_with fail
    go_region_held3 (fun w' => (w'.cell? ⟨w.heap.size, 0, none⟩ = some (.bool n) ∧ w'.cell? ⟨w.heap.size, 1, none⟩ = some (.slice a la ca) ∧ w'.cell? ⟨w.heap.size, 2, none⟩ = some (.slice b lb cb) ∧ w'.cell? ⟨w.heap.size + 1, 0, none⟩ = some (.bool m) ∧ w'.cell? ⟨w.heap.size + 1, 1, none⟩ = some (.slice c lc cc) ∧ w'.cell? ⟨w.heap.size + 1, 2, none⟩ = some (.slice d ld cd))) (first | exact n6 | exact o6 | go_keep)
      (first
      | (go_at_call 18; with_reducible refine Calls.mono (HR1.out _ ?_) ?_; (focus (repeat (first | exact HRB.out | refine bdrawD ?_ | refine bgrowD ?_ _))); rintro e w6 ⟨rfl, hb6, n6⟩)
      | (go_at_call 19; with_reducible refine Calls.mono (HR2.out _ ?_) ?_; (exact hb6.out); rintro e w7 ⟨rfl, hb7, o6⟩))
    all_goals
      clear HR1 HR2 HRB
      go_wp2_with fail
      go_ret
      exact ⟨by simp, bthen hB5 hb7.out⟩
end Go.Proofs.Ytfeapegdaffckaa

/-
  The walk of the law on sums, differences and products of fractions.
-/
import Derived.Test.YtfeapegdaffckaaP8LawsO
import Derived.BigQuiet
import Derived.Test.YtfeapegdaffckaaRef8S
import Derived.Test.YtfeapegdaffckaaRef8M
namespace Go.Proofs.Ytfeapegdaffckaa
open Go.RowKit

set_option maxRecDepth 20000 in
set_option maxHeartbeats 20000000 in
theorem sums_walk (hM : MakOk8) (hA : AddOk8) (hS : SubOk8) (hP : MulOk8) (n m : Bool) (a b c d : Option Addr) (la ca lb cb lc cc ld cd : Nat) (xs ys us vs : List Int) (w : World) (h1 : Nums w a la ca xs) (h2 : Nums w b lb cb ys) (h3 : Nums w c lc cc us) (h4 : Nums w d ld cd vs) :
    Calls Try.prog 5 #[.agg #[.bool n, .slice a la ca, .slice b lb cb], .agg #[.bool m, .slice c lc cc, .slice d ld cd]] w fun e w' => e = .returned (.bool true) ∧ Below w.heap.size w w' := by
  obtain ⟨V, hVe⟩ : ∃ V, V = (w.alloc (.cells #[.bool n, .slice a la ca, .slice b lb cb] 27)).alloc (.cells #[.bool m, .slice c lc cc, .slice d ld cd] 27) := ⟨_, rfl⟩
  have hv1 := balloc w (.cells #[.bool n, .slice a la ca, .slice b lb cb] 27)
  have hv2 := balloc (w.alloc (.cells #[.bool n, .slice a la ca, .slice b lb cb] 27)) (.cells #[.bool m, .slice c lc cc, .slice d ld cd] 27)
  have hV := bthen hv1 hv2
  have CA := (Cell3.new w n a b la ca lb cb).below hv2
  have CB := Cell3.new (w.alloc (.cells #[.bool n, .slice a la ca, .slice b lb cb] 27)) m c d lc cc ld cd
  rw [World.size_alloc] at CB
  have hz : V.heap.size = w.heap.size + 1 + 1 := by rw [hVe]; simp
  rw [← hVe] at hV CA CB
  have HVe : Hid (V = (w.alloc (.cells #[.bool n, .slice a la ca, .slice b lb cb] 27)).alloc (.cells #[.bool m, .slice c lc cc, .slice d ld cd] 27)) := hVe
  replace h1 := h1.below hV
  replace h2 := h2.below hV
  replace h3 := h3.below hV
  replace h4 := h4.below hV
  have HF := (show Hid _ from few8_two n m _ _ _ _ _ _ _ _ _ _ _ _ _ _ _ _ V h1 h2 h3 h4)
  have HZ : Hid (V.heap.size = w.heap.size + 1 + 1) := hz
  clear hv1 hv2 hVe hz
  obtain ⟨c0, c1, c2, -, -, -⟩ := CA
  obtain ⟨e0, e1, e2, -, -, -⟩ := CB
  go_enter Try.func5, Try.ntmps5
  go_wp2_with fail
  rw [← HVe.out, ← HZ.out]
  refine Calls.mono HF.out ?_
  rintro e w1 ⟨q, rfl, hb1⟩
  have hB1 := bthen hV hb1
  replace h1 := h1.below hb1
  replace h2 := h2.below hb1
  replace h3 := h3.below hb1
  replace h4 := h4.below hb1
  replace c0 := bkeep hb1 c0 rfl
  replace c1 := bkeep hb1 c1 rfl
  replace c2 := bkeep hb1 c2 rfl
  replace e0 := bkeep hb1 e0 rfl
  replace e1 := bkeep hb1 e1 rfl
  replace e2 := bkeep hb1 e2 rfl
  clear HF HVe HZ hb1 hV
  cases q with
  | false =>
    clear h1 h2 h3 h4
    go_wp2
    go_ret
    exact ⟨rfl, hB1⟩
  | true =>
    go_wp2_with fail
    refine (awake8_any hM _).mono ?_
    rintro e w2 ⟨rfl, hb2⟩
    have hB2 := bthen hB1 hb2
    replace h1 := h1.below hb2
    replace h2 := h2.below hb2
    replace h3 := h3.below hb2
    replace h4 := h4.below hb2
    replace c0 := bkeep hb2 c0 rfl
    replace c1 := bkeep hb2 c1 rfl
    replace c2 := bkeep hb2 c2 rfl
    replace e0 := bkeep hb2 e0 rfl
    replace e1 := bkeep hb2 e1 rfl
    replace e2 := bkeep hb2 e2 rfl
    clear hB1 hb2
    go_wp2_with fail
    refine (hA n m _ _ _ _ _ _ _ _ _ _ _ _ _ _ _ _ _ h1 h2 h3 h4).mono ?_
    rintro e y3 ⟨m3, p3, l3, k3, q3, j3, i3, s3, r3, f3, rfl, ⟨U3, X3⟩, t3, z3⟩
    have gw3 : w.heap.size + 1 < y3.heap.size := World.block_lt_of_cell? _ _ (bkeep z3 e0 rfl)
    have a3 := balloc y3 (.cells #[.bool m3, .slice p3 l3 k3, .slice q3 j3 i3] 27)
    have v3 := bthen z3 a3
    have hB3 := bthen hB2 v3
    have C3 := Cell3.new y3 m3 p3 q3 l3 k3 j3 i3
    replace U3 := U3.below a3
    replace X3 := X3.below a3
    replace h1 := h1.below v3
    replace h2 := h2.below v3
    replace h3 := h3.below v3
    replace h4 := h4.below v3
    replace c0 := bkeep v3 c0 rfl
    replace c1 := bkeep v3 c1 rfl
    replace c2 := bkeep v3 c2 rfl
    replace e0 := bkeep v3 e0 rfl
    replace e1 := bkeep v3 e1 rfl
    replace e2 := bkeep v3 e2 rfl
    obtain ⟨d30, d31, d32, g30, g31, g32⟩ := C3
    clear hB2 z3 a3 v3
    go_wp2_with fail
    generalize y3.alloc (.cells #[.bool m3, .slice p3 l3 k3, .slice q3 j3 i3] 27) = W3 at *
    generalize y3.heap.size = G3 at *
    refine (r8add_any n m _ _ _ _ _ _ _ _ _ _ _ _ _ _ _ _ _ h1 h2 h3 h4).mono ?_
    rintro e y4 ⟨m4, p4, l4, k4, q4, j4, i4, s4, r4, f4, rfl, ⟨U4, X4⟩, t4, z4⟩
    obtain ⟨rfl, rfl, rfl, rfl⟩ := t3.unique t4
    have a4 := balloc y4 (.cells #[.bool m3, .slice p4 l4 k4, .slice q4 j4 i4] 27)
    have v4 := bthen z4 a4
    have hB4 := bthen hB3 v4
    have D4 := Cell3.new y4 m3 p4 q4 l4 k4 j4 i4
    have D3 : Cell3 _ G3 _ _ _ _ _ _ _ := ⟨d30, d31, d32, g30, g31, g32⟩
    have g34 : G3 < y4.heap.size := (D3.below z4).lt
    replace U4 := U4.below a4
    replace X4 := X4.below a4
    replace h1 := h1.below v4
    replace h2 := h2.below v4
    replace h3 := h3.below v4
    replace h4 := h4.below v4
    replace c0 := bkeep v4 c0 rfl
    replace c1 := bkeep v4 c1 rfl
    replace c2 := bkeep v4 c2 rfl
    replace e0 := bkeep v4 e0 rfl
    replace e1 := bkeep v4 e1 rfl
    replace e2 := bkeep v4 e2 rfl
    replace D3 := D3.below v4
    replace U3 := U3.below v4
    replace X3 := X3.below v4
    obtain ⟨d30, d31, d32, g30, g31, g32⟩ := D3
    obtain ⟨d40, d41, d42, g40, g41, g42⟩ := D4
    clear hB3 z4 a4 v4 t3 t4
    go_wp2_with fail
    generalize y4.alloc (.cells #[.bool m3, .slice p4 l4 k4, .slice q4 j4 i4] 27) = W4 at *
    generalize y4.heap.size = G4 at *
    refine (r8same_eq m3 _ _ _ _ _ _ _ _ _ _ _ _ _ _ _ U3 X3 U4 X4).mono ?_
    rintro e w5 ⟨rfl, hb5⟩
    have hB5 := bthen hB4 hb5
    have D3 : Cell3 _ G3 _ _ _ _ _ _ _ := ⟨d30, d31, d32, g30, g31, g32⟩
    have D4 : Cell3 _ G4 _ _ _ _ _ _ _ := ⟨d40, d41, d42, g40, g41, g42⟩
    replace h1 := h1.below hb5
    replace h2 := h2.below hb5
    replace h3 := h3.below hb5
    replace h4 := h4.below hb5
    replace c0 := bkeep hb5 c0 rfl
    replace c1 := bkeep hb5 c1 rfl
    replace c2 := bkeep hb5 c2 rfl
    replace e0 := bkeep hb5 e0 rfl
    replace e1 := bkeep hb5 e1 rfl
    replace e2 := bkeep hb5 e2 rfl
    replace D3 := D3.below hb5
    replace D4 := D4.below hb5
    obtain ⟨d30, d31, d32, g30, g31, g32⟩ := D3
    obtain ⟨d40, d41, d42, g40, g41, g42⟩ := D4
    clear hB4 hb5 U3 X3 U4 X4
    go_wp2_with fail
    refine (hS n m _ _ _ _ _ _ _ _ _ _ _ _ _ _ _ _ _ h1 h2 h3 h4).mono ?_
    rintro e y6 ⟨m6, p6, l6, k6, q6, j6, i6, s6, r6, f6, rfl, ⟨U6, X6⟩, t6, z6⟩
    have D3 : Cell3 _ G3 _ _ _ _ _ _ _ := ⟨d30, d31, d32, g30, g31, g32⟩
    have D4 : Cell3 _ G4 _ _ _ _ _ _ _ := ⟨d40, d41, d42, g40, g41, g42⟩
    have hB6 := bthen hB5 z6
    obtain ⟨o0, o1, o2, u0, u1, u2⟩ := D3.below z6
    replace h1 := Nums.put3 (D3.below z6) (h1.below z6) (.bool m6) (.slice p6 l6 k6) (.slice q6 j6 i6)
    replace h2 := Nums.put3 (D3.below z6) (h2.below z6) (.bool m6) (.slice p6 l6 k6) (.slice q6 j6 i6)
    replace h3 := Nums.put3 (D3.below z6) (h3.below z6) (.bool m6) (.slice p6 l6 k6) (.slice q6 j6 i6)
    replace h4 := Nums.put3 (D3.below z6) (h4.below z6) (.bool m6) (.slice p6 l6 k6) (.slice q6 j6 i6)
    replace c0 := (put3_cell (g := G3) (by omega) (.bool m6) (.slice p6 l6 k6) (.slice q6 j6 i6)).trans (bkeep z6 c0 rfl)
    replace c1 := (put3_cell (g := G3) (by omega) (.bool m6) (.slice p6 l6 k6) (.slice q6 j6 i6)).trans (bkeep z6 c1 rfl)
    replace c2 := (put3_cell (g := G3) (by omega) (.bool m6) (.slice p6 l6 k6) (.slice q6 j6 i6)).trans (bkeep z6 c2 rfl)
    replace e0 := (put3_cell (g := G3) (by omega) (.bool m6) (.slice p6 l6 k6) (.slice q6 j6 i6)).trans (bkeep z6 e0 rfl)
    replace e1 := (put3_cell (g := G3) (by omega) (.bool m6) (.slice p6 l6 k6) (.slice q6 j6 i6)).trans (bkeep z6 e1 rfl)
    replace e2 := (put3_cell (g := G3) (by omega) (.bool m6) (.slice p6 l6 k6) (.slice q6 j6 i6)).trans (bkeep z6 e2 rfl)
    replace U6 := Nums.put3 (D3.below z6) U6 (.bool m6) (.slice p6 l6 k6) (.slice q6 j6 i6)
    replace X6 := Nums.put3 (D3.below z6) X6 (.bool m6) (.slice p6 l6 k6) (.slice q6 j6 i6)
    replace D4 := (D4.below z6).other (g := G3) (by omega) (.bool m6) (.slice p6 l6 k6) (.slice q6 j6 i6)
    replace D3 := (D3.below z6).put m6 p6 q6 l6 k6 j6 i6
    replace hB6 := put3_below hB6 (g := G3) (by omega) (.bool m6) (.slice p6 l6 k6) (.slice q6 j6 i6)
    clear hB5 z6
    obtain ⟨d30, d31, d32, g30, g31, g32⟩ := D3
    obtain ⟨d40, d41, d42, g40, g41, g42⟩ := D4
    go_wp2_with fail
    obtain ⟨W6, hW6⟩ : ∃ W, W = (((y6.setCell ⟨G3, 0, none⟩ (.bool m6)).setCell ⟨G3, 1, none⟩ (.slice p6 l6 k6)).setCell ⟨G3, 2, none⟩ (.slice q6 j6 i6)) := ⟨_, rfl⟩
    rw [← hW6] at h1 h2 h3 h4 c0 c1 c2 e0 e1 e2 d30 d31 d32 g30 g31 g32 d40 d41 d42 g40 g41 g42 U6 X6 hB6
    rw [← hW6]
    clear hW6 o0 o1 o2 u0 u1 u2
    refine (r8sub_any n m _ _ _ _ _ _ _ _ _ _ _ _ _ _ _ _ _ h1 h2 h3 h4).mono ?_
    rintro e y7 ⟨m7, p7, l7, k7, q7, j7, i7, s7, r7, f7, rfl, ⟨U7, X7⟩, t7, z7⟩
    obtain ⟨rfl, rfl, rfl, rfl⟩ := t6.unique t7
    have D3 : Cell3 _ G3 _ _ _ _ _ _ _ := ⟨d30, d31, d32, g30, g31, g32⟩
    have D4 : Cell3 _ G4 _ _ _ _ _ _ _ := ⟨d40, d41, d42, g40, g41, g42⟩
    have hB7 := bthen hB6 z7
    obtain ⟨o0, o1, o2, u0, u1, u2⟩ := D4.below z7
    replace h1 := Nums.put3 (D4.below z7) (h1.below z7) (.bool m6) (.slice p7 l7 k7) (.slice q7 j7 i7)
    replace h2 := Nums.put3 (D4.below z7) (h2.below z7) (.bool m6) (.slice p7 l7 k7) (.slice q7 j7 i7)
    replace h3 := Nums.put3 (D4.below z7) (h3.below z7) (.bool m6) (.slice p7 l7 k7) (.slice q7 j7 i7)
    replace h4 := Nums.put3 (D4.below z7) (h4.below z7) (.bool m6) (.slice p7 l7 k7) (.slice q7 j7 i7)
    replace c0 := (put3_cell (g := G4) (by omega) (.bool m6) (.slice p7 l7 k7) (.slice q7 j7 i7)).trans (bkeep z7 c0 rfl)
    replace c1 := (put3_cell (g := G4) (by omega) (.bool m6) (.slice p7 l7 k7) (.slice q7 j7 i7)).trans (bkeep z7 c1 rfl)
    replace c2 := (put3_cell (g := G4) (by omega) (.bool m6) (.slice p7 l7 k7) (.slice q7 j7 i7)).trans (bkeep z7 c2 rfl)
    replace e0 := (put3_cell (g := G4) (by omega) (.bool m6) (.slice p7 l7 k7) (.slice q7 j7 i7)).trans (bkeep z7 e0 rfl)
    replace e1 := (put3_cell (g := G4) (by omega) (.bool m6) (.slice p7 l7 k7) (.slice q7 j7 i7)).trans (bkeep z7 e1 rfl)
    replace e2 := (put3_cell (g := G4) (by omega) (.bool m6) (.slice p7 l7 k7) (.slice q7 j7 i7)).trans (bkeep z7 e2 rfl)
    replace U7 := Nums.put3 (D4.below z7) U7 (.bool m6) (.slice p7 l7 k7) (.slice q7 j7 i7)
    replace X7 := Nums.put3 (D4.below z7) X7 (.bool m6) (.slice p7 l7 k7) (.slice q7 j7 i7)
    replace U6 := Nums.put3 (D4.below z7) (U6.below z7) (.bool m6) (.slice p7 l7 k7) (.slice q7 j7 i7)
    replace X6 := Nums.put3 (D4.below z7) (X6.below z7) (.bool m6) (.slice p7 l7 k7) (.slice q7 j7 i7)
    replace D3 := (D3.below z7).other (g := G4) (by omega) (.bool m6) (.slice p7 l7 k7) (.slice q7 j7 i7)
    replace D4 := (D4.below z7).put m6 p7 q7 l7 k7 j7 i7
    replace hB7 := put3_below hB7 (g := G4) (by omega) (.bool m6) (.slice p7 l7 k7) (.slice q7 j7 i7)
    clear hB6 z7
    obtain ⟨d30, d31, d32, g30, g31, g32⟩ := D3
    obtain ⟨d40, d41, d42, g40, g41, g42⟩ := D4
    clear t6 t7
    go_wp2_with fail
    obtain ⟨W7, hW7⟩ : ∃ W, W = (((y7.setCell ⟨G4, 0, none⟩ (.bool m6)).setCell ⟨G4, 1, none⟩ (.slice p7 l7 k7)).setCell ⟨G4, 2, none⟩ (.slice q7 j7 i7)) := ⟨_, rfl⟩
    rw [← hW7] at h1 h2 h3 h4 c0 c1 c2 e0 e1 e2 d30 d31 d32 g30 g31 g32 d40 d41 d42 g40 g41 g42 U6 X6 U7 X7 hB7
    rw [← hW7]
    clear hW7 o0 o1 o2 u0 u1 u2
    refine (r8same_eq m6 _ _ _ _ _ _ _ _ _ _ _ _ _ _ _ U6 X6 U7 X7).mono ?_
    rintro e w8 ⟨rfl, hb8⟩
    have hB8 := bthen hB7 hb8
    have D3 : Cell3 _ G3 _ _ _ _ _ _ _ := ⟨d30, d31, d32, g30, g31, g32⟩
    have D4 : Cell3 _ G4 _ _ _ _ _ _ _ := ⟨d40, d41, d42, g40, g41, g42⟩
    replace h1 := h1.below hb8
    replace h2 := h2.below hb8
    replace h3 := h3.below hb8
    replace h4 := h4.below hb8
    replace c0 := bkeep hb8 c0 rfl
    replace c1 := bkeep hb8 c1 rfl
    replace c2 := bkeep hb8 c2 rfl
    replace e0 := bkeep hb8 e0 rfl
    replace e1 := bkeep hb8 e1 rfl
    replace e2 := bkeep hb8 e2 rfl
    replace D3 := D3.below hb8
    replace D4 := D4.below hb8
    obtain ⟨d30, d31, d32, g30, g31, g32⟩ := D3
    obtain ⟨d40, d41, d42, g40, g41, g42⟩ := D4
    clear hB7 hb8 U6 X6 U7 X7
    go_wp2_with fail
    refine (hP n m _ _ _ _ _ _ _ _ _ _ _ _ _ _ _ _ _ h1 h2 h3 h4).mono ?_
    rintro e y9 ⟨m9, p9, l9, k9, q9, j9, i9, s9, r9, f9, rfl, ⟨U9, X9⟩, t9, z9⟩
    have D3 : Cell3 _ G3 _ _ _ _ _ _ _ := ⟨d30, d31, d32, g30, g31, g32⟩
    have D4 : Cell3 _ G4 _ _ _ _ _ _ _ := ⟨d40, d41, d42, g40, g41, g42⟩
    have hB9 := bthen hB8 z9
    obtain ⟨o0, o1, o2, u0, u1, u2⟩ := D3.below z9
    replace h1 := Nums.put3 (D3.below z9) (h1.below z9) (.bool m9) (.slice p9 l9 k9) (.slice q9 j9 i9)
    replace h2 := Nums.put3 (D3.below z9) (h2.below z9) (.bool m9) (.slice p9 l9 k9) (.slice q9 j9 i9)
    replace h3 := Nums.put3 (D3.below z9) (h3.below z9) (.bool m9) (.slice p9 l9 k9) (.slice q9 j9 i9)
    replace h4 := Nums.put3 (D3.below z9) (h4.below z9) (.bool m9) (.slice p9 l9 k9) (.slice q9 j9 i9)
    replace c0 := (put3_cell (g := G3) (by omega) (.bool m9) (.slice p9 l9 k9) (.slice q9 j9 i9)).trans (bkeep z9 c0 rfl)
    replace c1 := (put3_cell (g := G3) (by omega) (.bool m9) (.slice p9 l9 k9) (.slice q9 j9 i9)).trans (bkeep z9 c1 rfl)
    replace c2 := (put3_cell (g := G3) (by omega) (.bool m9) (.slice p9 l9 k9) (.slice q9 j9 i9)).trans (bkeep z9 c2 rfl)
    replace e0 := (put3_cell (g := G3) (by omega) (.bool m9) (.slice p9 l9 k9) (.slice q9 j9 i9)).trans (bkeep z9 e0 rfl)
    replace e1 := (put3_cell (g := G3) (by omega) (.bool m9) (.slice p9 l9 k9) (.slice q9 j9 i9)).trans (bkeep z9 e1 rfl)
    replace e2 := (put3_cell (g := G3) (by omega) (.bool m9) (.slice p9 l9 k9) (.slice q9 j9 i9)).trans (bkeep z9 e2 rfl)
    replace U9 := Nums.put3 (D3.below z9) U9 (.bool m9) (.slice p9 l9 k9) (.slice q9 j9 i9)
    replace X9 := Nums.put3 (D3.below z9) X9 (.bool m9) (.slice p9 l9 k9) (.slice q9 j9 i9)
    replace D4 := (D4.below z9).other (g := G3) (by omega) (.bool m9) (.slice p9 l9 k9) (.slice q9 j9 i9)
    replace D3 := (D3.below z9).put m9 p9 q9 l9 k9 j9 i9
    replace hB9 := put3_below hB9 (g := G3) (by omega) (.bool m9) (.slice p9 l9 k9) (.slice q9 j9 i9)
    clear hB8 z9
    obtain ⟨d30, d31, d32, g30, g31, g32⟩ := D3
    obtain ⟨d40, d41, d42, g40, g41, g42⟩ := D4
    go_wp2_with fail
    obtain ⟨W9, hW9⟩ : ∃ W, W = (((y9.setCell ⟨G3, 0, none⟩ (.bool m9)).setCell ⟨G3, 1, none⟩ (.slice p9 l9 k9)).setCell ⟨G3, 2, none⟩ (.slice q9 j9 i9)) := ⟨_, rfl⟩
    rw [← hW9] at h1 h2 h3 h4 c0 c1 c2 e0 e1 e2 d30 d31 d32 g30 g31 g32 d40 d41 d42 g40 g41 g42 U9 X9 hB9
    rw [← hW9]
    clear hW9 o0 o1 o2 u0 u1 u2
    refine (r8mul_any n m _ _ _ _ _ _ _ _ _ _ _ _ _ _ _ _ _ h1 h2 h3 h4).mono ?_
    rintro e y10 ⟨m10, p10, l10, k10, q10, j10, i10, s10, r10, f10, rfl, ⟨U10, X10⟩, t10, z10⟩
    obtain ⟨rfl, rfl, rfl, rfl⟩ := t9.unique t10
    have D3 : Cell3 _ G3 _ _ _ _ _ _ _ := ⟨d30, d31, d32, g30, g31, g32⟩
    have D4 : Cell3 _ G4 _ _ _ _ _ _ _ := ⟨d40, d41, d42, g40, g41, g42⟩
    have hB10 := bthen hB9 z10
    obtain ⟨o0, o1, o2, u0, u1, u2⟩ := D4.below z10
    replace h1 := Nums.put3 (D4.below z10) (h1.below z10) (.bool m9) (.slice p10 l10 k10) (.slice q10 j10 i10)
    replace h2 := Nums.put3 (D4.below z10) (h2.below z10) (.bool m9) (.slice p10 l10 k10) (.slice q10 j10 i10)
    replace h3 := Nums.put3 (D4.below z10) (h3.below z10) (.bool m9) (.slice p10 l10 k10) (.slice q10 j10 i10)
    replace h4 := Nums.put3 (D4.below z10) (h4.below z10) (.bool m9) (.slice p10 l10 k10) (.slice q10 j10 i10)
    replace c0 := (put3_cell (g := G4) (by omega) (.bool m9) (.slice p10 l10 k10) (.slice q10 j10 i10)).trans (bkeep z10 c0 rfl)
    replace c1 := (put3_cell (g := G4) (by omega) (.bool m9) (.slice p10 l10 k10) (.slice q10 j10 i10)).trans (bkeep z10 c1 rfl)
    replace c2 := (put3_cell (g := G4) (by omega) (.bool m9) (.slice p10 l10 k10) (.slice q10 j10 i10)).trans (bkeep z10 c2 rfl)
    replace e0 := (put3_cell (g := G4) (by omega) (.bool m9) (.slice p10 l10 k10) (.slice q10 j10 i10)).trans (bkeep z10 e0 rfl)
    replace e1 := (put3_cell (g := G4) (by omega) (.bool m9) (.slice p10 l10 k10) (.slice q10 j10 i10)).trans (bkeep z10 e1 rfl)
    replace e2 := (put3_cell (g := G4) (by omega) (.bool m9) (.slice p10 l10 k10) (.slice q10 j10 i10)).trans (bkeep z10 e2 rfl)
    replace U10 := Nums.put3 (D4.below z10) U10 (.bool m9) (.slice p10 l10 k10) (.slice q10 j10 i10)
    replace X10 := Nums.put3 (D4.below z10) X10 (.bool m9) (.slice p10 l10 k10) (.slice q10 j10 i10)
    replace U9 := Nums.put3 (D4.below z10) (U9.below z10) (.bool m9) (.slice p10 l10 k10) (.slice q10 j10 i10)
    replace X9 := Nums.put3 (D4.below z10) (X9.below z10) (.bool m9) (.slice p10 l10 k10) (.slice q10 j10 i10)
    replace D3 := (D3.below z10).other (g := G4) (by omega) (.bool m9) (.slice p10 l10 k10) (.slice q10 j10 i10)
    replace D4 := (D4.below z10).put m9 p10 q10 l10 k10 j10 i10
    replace hB10 := put3_below hB10 (g := G4) (by omega) (.bool m9) (.slice p10 l10 k10) (.slice q10 j10 i10)
    clear hB9 z10
    obtain ⟨d30, d31, d32, g30, g31, g32⟩ := D3
    obtain ⟨d40, d41, d42, g40, g41, g42⟩ := D4
    clear t9 t10
    go_wp2_with fail
    obtain ⟨W10, hW10⟩ : ∃ W, W = (((y10.setCell ⟨G4, 0, none⟩ (.bool m9)).setCell ⟨G4, 1, none⟩ (.slice p10 l10 k10)).setCell ⟨G4, 2, none⟩ (.slice q10 j10 i10)) := ⟨_, rfl⟩
    rw [← hW10] at h1 h2 h3 h4 c0 c1 c2 e0 e1 e2 d30 d31 d32 g30 g31 g32 d40 d41 d42 g40 g41 g42 U9 X9 U10 X10 hB10
    rw [← hW10]
    clear hW10 o0 o1 o2 u0 u1 u2
    refine (r8same_eq m9 _ _ _ _ _ _ _ _ _ _ _ _ _ _ _ U9 X9 U10 X10).mono ?_
    rintro e w11 ⟨rfl, hb11⟩
    have hB11 := bthen hB10 hb11
    have D3 : Cell3 _ G3 _ _ _ _ _ _ _ := ⟨d30, d31, d32, g30, g31, g32⟩
    have D4 : Cell3 _ G4 _ _ _ _ _ _ _ := ⟨d40, d41, d42, g40, g41, g42⟩
    replace h1 := h1.below hb11
    replace h2 := h2.below hb11
    replace h3 := h3.below hb11
    replace h4 := h4.below hb11
    replace c0 := bkeep hb11 c0 rfl
    replace c1 := bkeep hb11 c1 rfl
    replace c2 := bkeep hb11 c2 rfl
    replace e0 := bkeep hb11 e0 rfl
    replace e1 := bkeep hb11 e1 rfl
    replace e2 := bkeep hb11 e2 rfl
    replace D3 := D3.below hb11
    replace D4 := D4.below hb11
    obtain ⟨d30, d31, d32, g30, g31, g32⟩ := D3
    obtain ⟨d40, d41, d42, g40, g41, g42⟩ := D4
    clear hB10 hb11 U9 X9 U10 X10
    clear h1 h2 h3 h4 hM hA hS hP
    go_wp2
    go_ret
    exact ⟨by simp, hB11⟩
end Go.Proofs.Ytfeapegdaffckaa

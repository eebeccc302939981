/-
  The walk of the law on the order of fractions, on what is added and subtracted, and on the difference's sign.
-/
import Derived.Test.YtfeapegdaffckaaP8LawsO
import Derived.BigQuiet
import Derived.Test.YtfeapegdaffckaaR8Back
namespace Go.Proofs.Ytfeapegdaffckaa
open Go.RowKit

theorem add_turn {n : Bool} {xs ys : List Int} {m : Bool} {us vs : List Int} {q : Bool} {ss rs : List Int} {e : Int} (h : ToldF (arF m us vs n xs ys (addT m us vs n xs ys) (nv vs * nv ys)) (numF (addT m us vs n xs ys) (nv vs * nv ys)) (denF (addT m us vs n xs ys) (nv vs * nv ys)) q ss rs e) :
    ToldF (arF n xs ys m us vs (addT n xs ys m us vs) (nv ys * nv vs)) (numF (addT n xs ys m us vs) (nv ys * nv vs)) (denF (addT n xs ys m us vs) (nv ys * nv vs)) q ss rs e := by
  rw [ar_comm, addT_comm, Nat.mul_comm (nv vs)] at h
  exact h
theorem mul_turn {n : Bool} {xs ys : List Int} {m : Bool} {us vs : List Int} {q : Bool} {ss rs : List Int} {e : Int} (h : ToldF (arF m us vs n xs ys (mulT m us n xs) (nv vs * nv ys)) (numF (mulT m us n xs) (nv vs * nv ys)) (denF (mulT m us n xs) (nv vs * nv ys)) q ss rs e) :
    ToldF (arF n xs ys m us vs (mulT n xs m us) (nv ys * nv vs)) (numF (mulT n xs m us) (nv ys * nv vs)) (denF (mulT n xs m us) (nv ys * nv vs)) q ss rs e := by
  rw [ar_comm, mulT_comm, Nat.mul_comm (nv vs)] at h
  exact h
/-- What is told of the sum less b. -/
theorem sub_back {n : Bool} {xs ys : List Int} {m : Bool} {us vs : List Int} {q : Bool} {ss rs : List Int} (hx : Digs 18446744073709551616 xs) (hy : Digs 18446744073709551616 ys) (hu : Digs 18446744073709551616 us) (hv : Digs 18446744073709551616 vs)
    (h : ToldF (arF n xs ys m us vs (addT n xs ys m us vs) (nv ys * nv vs)) (numF (addT n xs ys m us vs) (nv ys * nv vs)) (denF (addT n xs ys m us vs) (nv ys * nv vs)) q ss rs 0) {t : Bool} {ks bs : List Int} {e : Int}
    (h' : ToldF (arF q ss rs m us vs (subT q ss rs m us vs) (nv rs * nv vs)) (numF (subT q ss rs m us vs) (nv rs * nv vs)) (denF (subT q ss rs m us vs) (nv rs * nv vs)) t ks bs e) : e = 0 ∧ t = n ∧ ks = xs ∧ bs = ys := by
  obtain ⟨r1, r2, mk, hW, hN⟩ := told_ok8 h
  obtain ⟨hxW, hyN, hy0, hg1, hx16, hy16⟩ := rightF_parts hx hy r1
  obtain ⟨huW, hvN, hv0, hg2, hu16, hv16⟩ := rightF_parts hu hv r2
  obtain ⟨hD, b1, b2⟩ := makF_none mk
  have hrx : rightF q ss rs = true := right_of8 hW hN b1 b2 (den_pos hD) (num_den hD)
  obtain ⟨k1, k2⟩ := back_sub (x := iv n xs) (u := iv m us) hy0 hv0 hg1
  have eT : subT q ss rs m us vs = numF (addT n xs ys m us vs) (nv ys * nv vs) * (nv vs : Int) - iv m us * (denF (addT n xs ys m us vs) (nv ys * nv vs) : Int) := by
    unfold subT
    rw [hW.2.2, hN.nv]
  have eD : nv rs * nv vs = denF (addT n xs ys m us vs) (nv ys * nv vs) * nv vs := by rw [hN.nv]
  rw [eT, eD] at h'
  unfold addT at h'
  rw [k1, k2] at h'
  have hmk : arF q ss rs m us vs (numF (iv n xs * (nv vs : Int) + iv m us * (nv ys : Int)) (nv ys * nv vs) * (nv vs : Int) - iv m us * (denF (iv n xs * (nv vs : Int) + iv m us * (nv ys : Int)) (nv ys * nv vs) : Int)) (denF (iv n xs * (nv vs : Int) + iv m us * (nv ys : Int)) (nv ys * nv vs) * nv vs) = none := by
    unfold arF
    rw [hrx, r2]
    refine makF_some (Nat.mul_pos (den_pos hD) hv0) ?_ ?_
    · rw [k1]; have := pow16c; omega
    · rw [k2]; have := pow16c; omega
  rw [hmk] at h'
  rcases h' with ⟨_, hf, _⟩ | ⟨_, ⟨w1, w2⟩, rfl⟩
  · cases hf
  · obtain ⟨rfl, rfl⟩ := w1.unique hxW
    obtain rfl := w2.unique hyN
    exact ⟨rfl, rfl, rfl, rfl⟩
/-- The sign of the difference is the order. -/
theorem sign_cmp {n : Bool} {xs ys : List Int} {m : Bool} {us vs : List Int} {q : Bool} {ss rs : List Int} (h : ToldF (arF n xs ys m us vs (subT n xs ys m us vs) (nv ys * nv vs)) (numF (subT n xs ys m us vs) (nv ys * nv vs)) (denF (subT n xs ys m us vs) (nv ys * nv vs)) q ss rs 0) :
    cmpFF n xs ys m us vs = (if ss.length = 0 then 0 else if q = true then -1 else 1) := by
  obtain ⟨r1, r2, mk, hW, hN⟩ := told_ok8 h
  obtain ⟨hD, _, _⟩ := makF_none mk
  obtain ⟨s1, s2⟩ := num_sign (x := subT n xs ys m us vs) hD
  have hc := cmp_sign (P := iv n xs * (nv vs : Int)) (Q := iv m us * (nv ys : Int)) (X := numF (subT n xs ys m us vs) (nv ys * nv vs)) s1 s2
  unfold cmpFF
  rw [r1, r2]
  refine hc.trans ?_
  have he := hW.empty
  have hs := hW.sign
  by_cases c : numF (subT n xs ys m us vs) (nv ys * nv vs) = 0
  · rw [if_pos c, if_pos (he.2 c)]
  · rw [if_neg c, if_neg (fun k => c (he.1 k))]
    by_cases c2 : numF (subT n xs ys m us vs) (nv ys * nv vs) < 0
    · rw [if_pos c2, hs, decide_eq_true c2, if_pos rfl]
    · rw [if_neg c2, hs, decide_eq_false c2, if_neg (by simp)]

set_option maxRecDepth 20000 in
set_option maxHeartbeats 20000000 in
theorem around_walk (hM : MakOk8) (hA : AddOk8) (hS : SubOk8) (hP : MulOk8) (hC : CmpOk8) (n m : Bool) (a b c d : Option Addr) (la ca lb cb lc cc ld cd : Nat) (xs ys us vs : List Int) (w : World) (h1 : Nums w a la ca xs) (h2 : Nums w b lb cb ys) (h3 : Nums w c lc cc us) (h4 : Nums w d ld cd vs) :
    Calls Try.prog 6 #[.agg #[.bool n, .slice a la ca, .slice b lb cb], .agg #[.bool m, .slice c lc cc, .slice d ld cd]] w fun e w' => e = .returned (.bool true) ∧ Below w.heap.size w w' := by
  obtain ⟨V, hVe⟩ : ∃ V, V = (w.alloc (.cells #[.bool n, .slice a la ca, .slice b lb cb] 27)).alloc (.cells #[.bool m, .slice c lc cc, .slice d ld cd] 27) := ⟨_, rfl⟩
  have hv1 := balloc w (.cells #[.bool n, .slice a la ca, .slice b lb cb] 27)
  have hv2 := balloc (w.alloc (.cells #[.bool n, .slice a la ca, .slice b lb cb] 27)) (.cells #[.bool m, .slice c lc cc, .slice d ld cd] 27)
  have hV := bthen hv1 hv2
  have CA := (Cell3.new w n a b la ca lb cb).below hv2
  have CB := Cell3.new (w.alloc (.cells #[.bool n, .slice a la ca, .slice b lb cb] 27)) m c d lc cc ld cd
  rw [World.size_alloc] at CB
  have hz : V.heap.size = w.heap.size + 1 + 1 := by rw [hVe]; simp
  rw [← hVe] at hV CA CB
  have HVe : Hid (V = (w.alloc (.cells #[.bool n, .slice a la ca, .slice b lb cb] 27)).alloc (.cells #[.bool m, .slice c lc cc, .slice d ld cd] 27)) := hVe
  replace h1 := h1.below hV
  replace h2 := h2.below hV
  replace h3 := h3.below hV
  replace h4 := h4.below hV
  have HF := (show Hid _ from few8_two n m _ _ _ _ _ _ _ _ _ _ _ _ _ _ _ _ V h1 h2 h3 h4)
  have HZ : Hid (V.heap.size = w.heap.size + 1 + 1) := hz
  clear hv1 hv2 hVe hz
  obtain ⟨c0, c1, c2, -, -, -⟩ := CA
  obtain ⟨e0, e1, e2, -, -, -⟩ := CB
  go_enter Try.func6, Try.ntmps6
  go_wp2_with fail
  rw [← HVe.out, ← HZ.out]
  refine Calls.mono HF.out ?_
  rintro e w1 ⟨q, rfl, hb1⟩
  have hB1 := bthen hV hb1
  replace h1 := h1.below hb1
  replace h2 := h2.below hb1
  replace h3 := h3.below hb1
  replace h4 := h4.below hb1
  replace c0 := bkeep hb1 c0 rfl
  replace c1 := bkeep hb1 c1 rfl
  replace c2 := bkeep hb1 c2 rfl
  replace e0 := bkeep hb1 e0 rfl
  replace e1 := bkeep hb1 e1 rfl
  replace e2 := bkeep hb1 e2 rfl
  clear HF HVe HZ hb1 hV
  cases q with
  | false =>
    clear h1 h2 h3 h4
    go_wp2
    go_ret
    exact ⟨rfl, hB1⟩
  | true =>
    go_wp2_with fail
    refine (awake8_any hM _).mono ?_
    rintro e w2 ⟨rfl, hb2⟩
    have hB2 := bthen hB1 hb2
    replace h1 := h1.below hb2
    replace h2 := h2.below hb2
    replace h3 := h3.below hb2
    replace h4 := h4.below hb2
    replace c0 := bkeep hb2 c0 rfl
    replace c1 := bkeep hb2 c1 rfl
    replace c2 := bkeep hb2 c2 rfl
    replace e0 := bkeep hb2 e0 rfl
    replace e1 := bkeep hb2 e1 rfl
    replace e2 := bkeep hb2 e2 rfl
    clear hB1 hb2
    go_wp2_with fail
    refine (hA n m _ _ _ _ _ _ _ _ _ _ _ _ _ _ _ _ _ h1 h2 h3 h4).mono ?_
    rintro e y3 ⟨m3, p3, l3, k3, q3, j3, i3, s3, r3, f3, rfl, ⟨U3, X3⟩, t3, z3⟩
    have a3 := balloc y3 (.cells #[.bool m3, .slice p3 l3 k3, .slice q3 j3 i3] 27)
    have v3 := bthen z3 a3
    have hB3 := bthen hB2 v3
    have D3 := Cell3.new y3 m3 p3 q3 l3 k3 j3 i3
    replace U3 := U3.below a3
    replace X3 := X3.below a3
    replace h1 := h1.below v3
    replace h2 := h2.below v3
    replace h3 := h3.below v3
    replace h4 := h4.below v3
    replace c0 := bkeep v3 c0 rfl
    replace c1 := bkeep v3 c1 rfl
    replace c2 := bkeep v3 c2 rfl
    replace e0 := bkeep v3 e0 rfl
    replace e1 := bkeep v3 e1 rfl
    replace e2 := bkeep v3 e2 rfl
    obtain ⟨d30, d31, d32, g30, g31, g32⟩ := D3
    clear hB2 z3 a3 v3
    go_wp2_with fail
    generalize y3.alloc (.cells #[.bool m3, .slice p3 l3 k3, .slice q3 j3 i3] 27) = W3 at *
    generalize y3.heap.size = G3 at *
    refine (hA m n _ _ _ _ _ _ _ _ _ _ _ _ _ _ _ _ _ h3 h4 h1 h2).mono ?_
    rintro e y4 ⟨m4, p4, l4, k4, q4, j4, i4, s4, r4, f4, rfl, ⟨U4, X4⟩, t4, z4⟩
    obtain ⟨rfl, rfl, rfl, rfl⟩ := t3.unique (add_turn t4)
    clear t4
    have a4 := balloc y4 (.cells #[.bool m3, .slice p4 l4 k4, .slice q4 j4 i4] 27)
    have v4 := bthen z4 a4
    have hB4 := bthen hB3 v4
    have D4 := Cell3.new y4 m3 p4 q4 l4 k4 j4 i4
    replace U4 := U4.below a4
    replace X4 := X4.below a4
    have D3 : Cell3 _ G3 _ _ _ _ _ _ _ := ⟨d30, d31, d32, g30, g31, g32⟩
    clear d30 d31 d32 g30 g31 g32
    replace h1 := h1.below v4
    replace h2 := h2.below v4
    replace h3 := h3.below v4
    replace h4 := h4.below v4
    replace c0 := bkeep v4 c0 rfl
    replace c1 := bkeep v4 c1 rfl
    replace c2 := bkeep v4 c2 rfl
    replace e0 := bkeep v4 e0 rfl
    replace e1 := bkeep v4 e1 rfl
    replace e2 := bkeep v4 e2 rfl
    replace D3 := D3.below v4
    replace U3 := U3.below v4
    replace X3 := X3.below v4
    obtain ⟨d30, d31, d32, g30, g31, g32⟩ := D3
    obtain ⟨d40, d41, d42, g40, g41, g42⟩ := D4
    clear hB3 z4 a4 v4
    go_wp2_with fail
    generalize y4.alloc (.cells #[.bool m3, .slice p4 l4 k4, .slice q4 j4 i4] 27) = W4 at *
    generalize y4.heap.size = G4 at *
    refine (hP n m _ _ _ _ _ _ _ _ _ _ _ _ _ _ _ _ _ h1 h2 h3 h4).mono ?_
    rintro e y5 ⟨m5, p5, l5, k5, q5, j5, i5, s5, r5, f5, rfl, ⟨U5, X5⟩, t5, z5⟩
    have a5 := balloc y5 (.cells #[.bool m5, .slice p5 l5 k5, .slice q5 j5 i5] 27)
    have v5 := bthen z5 a5
    have hB5 := bthen hB4 v5
    have D5 := Cell3.new y5 m5 p5 q5 l5 k5 j5 i5
    replace U5 := U5.below a5
    replace X5 := X5.below a5
    have D3 : Cell3 _ G3 _ _ _ _ _ _ _ := ⟨d30, d31, d32, g30, g31, g32⟩
    clear d30 d31 d32 g30 g31 g32
    have D4 : Cell3 _ G4 _ _ _ _ _ _ _ := ⟨d40, d41, d42, g40, g41, g42⟩
    clear d40 d41 d42 g40 g41 g42
    replace h1 := h1.below v5
    replace h2 := h2.below v5
    replace h3 := h3.below v5
    replace h4 := h4.below v5
    replace c0 := bkeep v5 c0 rfl
    replace c1 := bkeep v5 c1 rfl
    replace c2 := bkeep v5 c2 rfl
    replace e0 := bkeep v5 e0 rfl
    replace e1 := bkeep v5 e1 rfl
    replace e2 := bkeep v5 e2 rfl
    replace D3 := D3.below v5
    replace D4 := D4.below v5
    replace U3 := U3.below v5
    replace X3 := X3.below v5
    replace U4 := U4.below v5
    replace X4 := X4.below v5
    obtain ⟨d30, d31, d32, g30, g31, g32⟩ := D3
    obtain ⟨d40, d41, d42, g40, g41, g42⟩ := D4
    obtain ⟨d50, d51, d52, g50, g51, g52⟩ := D5
    clear hB4 z5 a5 v5
    go_wp2_with fail
    generalize y5.alloc (.cells #[.bool m5, .slice p5 l5 k5, .slice q5 j5 i5] 27) = W5 at *
    generalize y5.heap.size = G5 at *
    refine (hP m n _ _ _ _ _ _ _ _ _ _ _ _ _ _ _ _ _ h3 h4 h1 h2).mono ?_
    rintro e y6 ⟨m6, p6, l6, k6, q6, j6, i6, s6, r6, f6, rfl, ⟨U6, X6⟩, t6, z6⟩
    obtain ⟨rfl, rfl, rfl, rfl⟩ := t5.unique (mul_turn t6)
    clear t6 t5
    have a6 := balloc y6 (.cells #[.bool m5, .slice p6 l6 k6, .slice q6 j6 i6] 27)
    have v6 := bthen z6 a6
    have hB6 := bthen hB5 v6
    have D6 := Cell3.new y6 m5 p6 q6 l6 k6 j6 i6
    replace U6 := U6.below a6
    replace X6 := X6.below a6
    have D3 : Cell3 _ G3 _ _ _ _ _ _ _ := ⟨d30, d31, d32, g30, g31, g32⟩
    clear d30 d31 d32 g30 g31 g32
    have D4 : Cell3 _ G4 _ _ _ _ _ _ _ := ⟨d40, d41, d42, g40, g41, g42⟩
    clear d40 d41 d42 g40 g41 g42
    have D5 : Cell3 _ G5 _ _ _ _ _ _ _ := ⟨d50, d51, d52, g50, g51, g52⟩
    clear d50 d51 d52 g50 g51 g52
    replace h1 := h1.below v6
    replace h2 := h2.below v6
    replace h3 := h3.below v6
    replace h4 := h4.below v6
    replace c0 := bkeep v6 c0 rfl
    replace c1 := bkeep v6 c1 rfl
    replace c2 := bkeep v6 c2 rfl
    replace e0 := bkeep v6 e0 rfl
    replace e1 := bkeep v6 e1 rfl
    replace e2 := bkeep v6 e2 rfl
    replace D3 := D3.below v6
    replace D4 := D4.below v6
    replace D5 := D5.below v6
    replace U3 := U3.below v6
    replace X3 := X3.below v6
    replace U4 := U4.below v6
    replace X4 := X4.below v6
    replace U5 := U5.below v6
    replace X5 := X5.below v6
    obtain ⟨d30, d31, d32, g30, g31, g32⟩ := D3
    obtain ⟨d40, d41, d42, g40, g41, g42⟩ := D4
    obtain ⟨d50, d51, d52, g50, g51, g52⟩ := D5
    obtain ⟨d60, d61, d62, g60, g61, g62⟩ := D6
    clear hB5 z6 a6 v6
    go_wp2_with fail
    generalize y6.alloc (.cells #[.bool m5, .slice p6 l6 k6, .slice q6 j6 i6] 27) = W6 at *
    generalize y6.heap.size = G6 at *
    refine (r8same_eq m3 _ _ _ _ _ _ _ _ _ _ _ _ _ _ _ U3 X3 U4 X4).mono ?_
    rintro e w7 ⟨rfl, hb7⟩
    clear U4 X4 d40 d41 d42 g40 g41 g42
    have hB7 := bthen hB6 hb7
    have D3 : Cell3 _ G3 _ _ _ _ _ _ _ := ⟨d30, d31, d32, g30, g31, g32⟩
    clear d30 d31 d32 g30 g31 g32
    have D5 : Cell3 _ G5 _ _ _ _ _ _ _ := ⟨d50, d51, d52, g50, g51, g52⟩
    clear d50 d51 d52 g50 g51 g52
    have D6 : Cell3 _ G6 _ _ _ _ _ _ _ := ⟨d60, d61, d62, g60, g61, g62⟩
    clear d60 d61 d62 g60 g61 g62
    replace h1 := h1.below hb7
    replace h2 := h2.below hb7
    replace h3 := h3.below hb7
    replace h4 := h4.below hb7
    replace c0 := bkeep hb7 c0 rfl
    replace c1 := bkeep hb7 c1 rfl
    replace c2 := bkeep hb7 c2 rfl
    replace e0 := bkeep hb7 e0 rfl
    replace e1 := bkeep hb7 e1 rfl
    replace e2 := bkeep hb7 e2 rfl
    replace D3 := D3.below hb7
    replace D5 := D5.below hb7
    replace D6 := D6.below hb7
    replace U3 := U3.below hb7
    replace X3 := X3.below hb7
    replace U5 := U5.below hb7
    replace X5 := X5.below hb7
    replace U6 := U6.below hb7
    replace X6 := X6.below hb7
    obtain ⟨d30, d31, d32, g30, g31, g32⟩ := D3
    obtain ⟨d50, d51, d52, g50, g51, g52⟩ := D5
    obtain ⟨d60, d61, d62, g60, g61, g62⟩ := D6
    clear hB6 hb7
    go_wp2_with fail
    refine (r8same_eq m5 _ _ _ _ _ _ _ _ _ _ _ _ _ _ _ U5 X5 U6 X6).mono ?_
    rintro e w8 ⟨rfl, hb8⟩
    clear U5 X5 U6 X6 d50 d51 d52 g50 g51 g52 d60 d61 d62 g60 g61 g62
    have hB8 := bthen hB7 hb8
    have D3 : Cell3 _ G3 _ _ _ _ _ _ _ := ⟨d30, d31, d32, g30, g31, g32⟩
    clear d30 d31 d32 g30 g31 g32
    replace h1 := h1.below hb8
    replace h2 := h2.below hb8
    replace h3 := h3.below hb8
    replace h4 := h4.below hb8
    replace c0 := bkeep hb8 c0 rfl
    replace c1 := bkeep hb8 c1 rfl
    replace c2 := bkeep hb8 c2 rfl
    replace e0 := bkeep hb8 e0 rfl
    replace e1 := bkeep hb8 e1 rfl
    replace e2 := bkeep hb8 e2 rfl
    replace D3 := D3.below hb8
    replace U3 := U3.below hb8
    replace X3 := X3.below hb8
    obtain ⟨d30, d31, d32, g30, g31, g32⟩ := D3
    clear hB7 hb8
    go_wp2_with fail
    refine (hS n m _ _ _ _ _ _ _ _ _ _ _ _ _ _ _ _ _ h1 h2 h3 h4).mono ?_
    rintro e y9 ⟨m9, p9, l9, k9, q9, j9, i9, s9, r9, f9, rfl, ⟨U9, X9⟩, t9, z9⟩
    have a9 := balloc y9 (.cells #[.bool m9, .slice p9 l9 k9, .slice q9 j9 i9] 27)
    have v9 := bthen z9 a9
    have hB9 := bthen hB8 v9
    have D9 := Cell3.new y9 m9 p9 q9 l9 k9 j9 i9
    replace U9 := U9.below a9
    replace X9 := X9.below a9
    have D3 : Cell3 _ G3 _ _ _ _ _ _ _ := ⟨d30, d31, d32, g30, g31, g32⟩
    clear d30 d31 d32 g30 g31 g32
    replace h1 := h1.below v9
    replace h2 := h2.below v9
    replace h3 := h3.below v9
    replace h4 := h4.below v9
    replace c0 := bkeep v9 c0 rfl
    replace c1 := bkeep v9 c1 rfl
    replace c2 := bkeep v9 c2 rfl
    replace e0 := bkeep v9 e0 rfl
    replace e1 := bkeep v9 e1 rfl
    replace e2 := bkeep v9 e2 rfl
    replace D3 := D3.below v9
    replace U3 := U3.below v9
    replace X3 := X3.below v9
    obtain ⟨d30, d31, d32, g30, g31, g32⟩ := D3
    obtain ⟨d90, d91, d92, g90, g91, g92⟩ := D9
    clear hB8 z9 a9 v9
    by_cases x0 : f3 = 0
    · subst x0
      go_wp2_with fail
      generalize y9.alloc (.cells #[.bool m9, .slice p9 l9 k9, .slice q9 j9 i9] 27) = W9 at *
      generalize y9.heap.size = G9 at *
      refine (hS m3 m _ _ _ _ _ _ _ _ _ _ _ _ _ _ _ _ _ U3 X3 h3 h4).mono ?_
      rintro e y10 ⟨m10, p10, l10, k10, q10, j10, i10, s10, r10, f10, rfl, ⟨U10, X10⟩, t10, z10⟩
      obtain ⟨rfl, rfl, rfl, rfl⟩ := sub_back h1.digs h2.digs h3.digs h4.digs t3 t10
      clear t10 t3 U3 X3 d30 d31 d32 g30 g31 g32
      have a10 := balloc y10 (.cells #[.bool m10, .slice p10 l10 k10, .slice q10 j10 i10] 27)
      have v10 := bthen z10 a10
      have hB10 := bthen hB9 v10
      have D10 := Cell3.new y10 m10 p10 q10 l10 k10 j10 i10
      replace U10 := U10.below a10
      replace X10 := X10.below a10
      have D9 : Cell3 _ G9 _ _ _ _ _ _ _ := ⟨d90, d91, d92, g90, g91, g92⟩
      clear d90 d91 d92 g90 g91 g92
      replace h1 := h1.below v10
      replace h2 := h2.below v10
      replace h3 := h3.below v10
      replace h4 := h4.below v10
      replace c0 := bkeep v10 c0 rfl
      replace c1 := bkeep v10 c1 rfl
      replace c2 := bkeep v10 c2 rfl
      replace e0 := bkeep v10 e0 rfl
      replace e1 := bkeep v10 e1 rfl
      replace e2 := bkeep v10 e2 rfl
      replace D9 := D9.below v10
      replace U9 := U9.below v10
      replace X9 := X9.below v10
      obtain ⟨d90, d91, d92, g90, g91, g92⟩ := D9
      obtain ⟨d100, d101, d102, g100, g101, g102⟩ := D10
      clear hB9 z10 a10 v10
      go_wp2_with fail
      refine (r8same_eq m10 _ _ _ _ _ _ _ _ _ _ _ _ _ _ _ U10 X10 h1 h2).mono ?_
      rintro e w11 ⟨rfl, hb11⟩
      have hB11 := bthen hB10 hb11
      clear d100 d101 d102 g100 g101 g102 U10 X10
      have D9 : Cell3 _ G9 _ _ _ _ _ _ _ := ⟨d90, d91, d92, g90, g91, g92⟩
      clear d90 d91 d92 g90 g91 g92
      replace h1 := h1.below hb11
      replace h2 := h2.below hb11
      replace h3 := h3.below hb11
      replace h4 := h4.below hb11
      replace c0 := bkeep hb11 c0 rfl
      replace c1 := bkeep hb11 c1 rfl
      replace c2 := bkeep hb11 c2 rfl
      replace e0 := bkeep hb11 e0 rfl
      replace e1 := bkeep hb11 e1 rfl
      replace e2 := bkeep hb11 e2 rfl
      replace D9 := D9.below hb11
      replace U9 := U9.below hb11
      replace X9 := X9.below hb11
      obtain ⟨d90, d91, d92, g90, g91, g92⟩ := D9
      clear hB10 hb11
      by_cases i0 : f9 = 0
      · subst i0
        have hc := sign_cmp t9
        have hl9 := U9.hlen
        have m9x := U9.hmax
        have m9c := U9.hcap
        unfold maxLen at m9x
        rw [hl9] at hc
        have HC := (show Hid _ from hC m10 m _ _ _ _ _ _ _ _ _ _ _ _ _ _ _ _ _ h1 h2 h3 h4)
        rw [hc] at HC
        clear hc t9 hl9 h1 h2 h3 h4 U9 X9 hM hA hS hP hC
        by_cases l0 : l9 = 0
        · subst l0
          rw [if_pos rfl] at HC
          cases m9 with
          | true =>
            go_wp2_with fail
            refine Calls.mono HC.out ?_
            rintro e wz ⟨rfl, hbz⟩
            have hBz := bthen hB11 hbz
            clear HC hbz hB11
            go_wp2
            go_ret
            exact ⟨by simp, hBz⟩
          | false =>
            go_wp2_with fail
            refine Calls.mono HC.out ?_
            rintro e wz ⟨rfl, hbz⟩
            have hBz := bthen hB11 hbz
            clear HC hbz hB11
            go_wp2
            go_ret
            exact ⟨by simp, hBz⟩
        · have l0i : ((l9 : Int) == 0) = false := by simp; omega
          rw [if_neg l0] at HC
          cases m9 with
          | true =>
            rw [if_pos rfl] at HC
            go_wp2_with fail
            refine Calls.mono HC.out ?_
            rintro e wz ⟨rfl, hbz⟩
            have hBz := bthen hB11 hbz
            clear HC hbz hB11
            go_wp2
            go_ret
            exact ⟨by simp, hBz⟩
          | false =>
            rw [if_neg (by simp)] at HC
            go_wp2_with fail
            refine Calls.mono HC.out ?_
            rintro e wz ⟨rfl, hbz⟩
            have hBz := bthen hB11 hbz
            clear HC hbz hB11
            go_wp2
            go_ret
            exact ⟨by simp, hBz⟩
      · have i0n : (f9 != 0) = true := by simpa using i0
        clear t9 h1 h2 h3 h4 U9 X9 hM hA hS hP hC
        go_wp2
        go_ret
        exact ⟨rfl, hB11⟩
    · have x0n : (f3 == 0) = false := by simpa using x0
      clear t3 U3 X3 d30 d31 d32 g30 g31 g32
      by_cases i0 : f9 = 0
      · subst i0
        have hc := sign_cmp t9
        have hl9 := U9.hlen
        have m9x := U9.hmax
        have m9c := U9.hcap
        unfold maxLen at m9x
        rw [hl9] at hc
        have HC := (show Hid _ from hC n m _ _ _ _ _ _ _ _ _ _ _ _ _ _ _ _ _ h1 h2 h3 h4)
        rw [hc] at HC
        clear hc t9 hl9 h1 h2 h3 h4 U9 X9 hM hA hS hP hC
        by_cases l0 : l9 = 0
        · subst l0
          rw [if_pos rfl] at HC
          cases m9 with
          | true =>
            go_wp2_with fail
            refine Calls.mono HC.out ?_
            rintro e wz ⟨rfl, hbz⟩
            have hBz := bthen hB9 hbz
            clear HC hbz hB9
            go_wp2
            go_ret
            exact ⟨by simp, hBz⟩
          | false =>
            go_wp2_with fail
            refine Calls.mono HC.out ?_
            rintro e wz ⟨rfl, hbz⟩
            have hBz := bthen hB9 hbz
            clear HC hbz hB9
            go_wp2
            go_ret
            exact ⟨by simp, hBz⟩
        · have l0i : ((l9 : Int) == 0) = false := by simp; omega
          rw [if_neg l0] at HC
          cases m9 with
          | true =>
            rw [if_pos rfl] at HC
            go_wp2_with fail
            refine Calls.mono HC.out ?_
            rintro e wz ⟨rfl, hbz⟩
            have hBz := bthen hB9 hbz
            clear HC hbz hB9
            go_wp2
            go_ret
            exact ⟨by simp, hBz⟩
          | false =>
            rw [if_neg (by simp)] at HC
            go_wp2_with fail
            refine Calls.mono HC.out ?_
            rintro e wz ⟨rfl, hbz⟩
            have hBz := bthen hB9 hbz
            clear HC hbz hB9
            go_wp2
            go_ret
            exact ⟨by simp, hBz⟩
      · have i0n : (f9 != 0) = true := by simpa using i0
        clear t9 h1 h2 h3 h4 U9 X9 hM hA hS hP hC
        go_wp2
        go_ret
        exact ⟨rfl, hB9⟩
end Go.Proofs.Ytfeapegdaffckaa

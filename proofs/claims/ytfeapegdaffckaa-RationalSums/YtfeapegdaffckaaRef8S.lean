/-
  The contract of the document's Sub of fractions.
-/
import Derived.Test.YtfeapegdaffckaaRef8E
namespace Go.Proofs.Ytfeapegdaffckaa
open Go.RowKit

theorem put3_other {w : World} {g g' i : Nat} (h : g' ≠ g) (x y z : Value) : (((w.setCell ⟨g, 0, none⟩ x).setCell ⟨g, 1, none⟩ y).setCell ⟨g, 2, none⟩ z).cell? ⟨g', i, none⟩ = w.cell? ⟨g', i, none⟩ := by
  rw [World.cell?_setCell_other, put2_other h]
  intro e; cases e; exact h rfl
/-- The opposite of a fraction that may be may be. -/
theorem rightF_neg {m : Bool} {us vs : List Int} (hd : Digs 18446744073709551616 us) (h : rightF m us vs = true) : rightF (negN m us) (negL m us) vs = true ∧ iv (negN m us) (negL m us) = -iv m us := by
  obtain ⟨h1, h2, h3, h4, h5, h6⟩ := (rightF_iff m us vs).1 h
  have e1 : negL m us = us := by simp [negL, h1]
  have hp := nv_pos hd ((rightI_iff m us).1 h1).1
  have hz : us.length = 0 → val 18446744073709551616 us = 0 := fun e => by rw [List.eq_nil_of_length_eq_zero e]; rfl
  refine ⟨(rightF_iff _ _ _).2 ⟨?_, h2, h3, h4, by rw [e1]; exact h5, by rw [e1]; exact h6⟩, ?_⟩
  · refine (rightI_iff _ _).2 ⟨by rw [e1]; exact ((rightI_iff m us).1 h1).1, fun e => ?_⟩
    rw [e1]
    unfold negN at e
    simp at e
    omega
  · rw [e1]
    unfold negN iv
    rw [h1]
    by_cases e : us.length = 0
    · have := hz e
      cases m <;> simp [e, this]
    · have : 0 < us.length := by omega
      cases m <;> simp [this]
theorem sub_add {n : Bool} {xs ys : List Int} {m : Bool} {us vs : List Int} (hd : Digs 18446744073709551616 us) (h : rightF m us vs = true) : arF n xs ys (negN m us) (negL m us) vs (addT n xs ys (negN m us) (negL m us) vs) (nv ys * nv vs) = arF n xs ys m us vs (subT n xs ys m us vs) (nv ys * nv vs) ∧ addT n xs ys (negN m us) (negL m us) vs = subT n xs ys m us vs := by
  obtain ⟨h1, h2⟩ := rightF_neg hd h
  have e : addT n xs ys (negN m us) (negL m us) vs = subT n xs ys m us vs := by
    unfold addT subT
    rw [h2, Int.neg_mul]
    omega
  refine ⟨?_, e⟩
  rw [e]
  unfold arF
  rw [h1, h]

theorem keep6 {w : World} {G g : Nat} {p0 p1 p2 p3 p4 p5 : Option Value} (h0 : G ≠ g) (h1 : G + 1 ≠ g) (x y z : Value)
    (h : w.cell? ⟨G, 0, none⟩ = p0 ∧ w.cell? ⟨G, 1, none⟩ = p1 ∧ w.cell? ⟨G, 2, none⟩ = p2 ∧ w.cell? ⟨G + 1, 0, none⟩ = p3 ∧ w.cell? ⟨G + 1, 1, none⟩ = p4 ∧ w.cell? ⟨G + 1, 2, none⟩ = p5) :
    (((w.setCell ⟨g, 0, none⟩ x).setCell ⟨g, 1, none⟩ y).setCell ⟨g, 2, none⟩ z).cell? ⟨G, 0, none⟩ = p0 ∧ (((w.setCell ⟨g, 0, none⟩ x).setCell ⟨g, 1, none⟩ y).setCell ⟨g, 2, none⟩ z).cell? ⟨G, 1, none⟩ = p1 ∧ (((w.setCell ⟨g, 0, none⟩ x).setCell ⟨g, 1, none⟩ y).setCell ⟨g, 2, none⟩ z).cell? ⟨G, 2, none⟩ = p2 ∧ (((w.setCell ⟨g, 0, none⟩ x).setCell ⟨g, 1, none⟩ y).setCell ⟨g, 2, none⟩ z).cell? ⟨G + 1, 0, none⟩ = p3 ∧ (((w.setCell ⟨g, 0, none⟩ x).setCell ⟨g, 1, none⟩ y).setCell ⟨g, 2, none⟩ z).cell? ⟨G + 1, 1, none⟩ = p4 ∧ (((w.setCell ⟨g, 0, none⟩ x).setCell ⟨g, 1, none⟩ y).setCell ⟨g, 2, none⟩ z).cell? ⟨G + 1, 2, none⟩ = p5 :=
  ⟨(put3_other h0 x y z).trans h.1, (put3_other h0 x y z).trans h.2.1, (put3_other h0 x y z).trans h.2.2.1, (put3_other h1 x y z).trans h.2.2.2.1, (put3_other h1 x y z).trans h.2.2.2.2.1, (put3_other h1 x y z).trans h.2.2.2.2.2⟩

set_option maxRecDepth 20000 in
set_option maxHeartbeats 20000000 in
theorem r8sub_any (n m : Bool) (a b c d : Option Addr) (la ca lb cb lc cc ld cd : Nat) (xs ys us vs : List Int) (w : World) (h1 : Nums w a la ca xs) (h2 : Nums w b lb cb ys) (h3 : Nums w c lc cc us) (h4 : Nums w d ld cd vs) :
    Calls Try.prog 23 #[.agg #[.bool n, .slice a la ca, .slice b lb cb], .agg #[.bool m, .slice c lc cc, .slice d ld cd]] w fun e w' => FracT (arF n xs ys m us vs (subT n xs ys m us vs) (nv ys * nv vs)) (numF (subT n xs ys m us vs) (nv ys * nv vs)) (denF (subT n xs ys m us vs) (nv ys * nv vs)) w e w' := by
  obtain ⟨T, hT⟩ : ∃ T, T = subT n xs ys m us vs := ⟨_, rfl⟩
  rw [← hT]
  obtain ⟨D, hD⟩ : ∃ D, D = nv ys * nv vs := ⟨_, rfl⟩
  rw [← hD]
  obtain ⟨f, hf⟩ : ∃ f, f = arF n xs ys m us vs T D := ⟨_, rfl⟩
  obtain ⟨X, hX⟩ : ∃ X, X = numF T D := ⟨_, rfl⟩
  obtain ⟨Y, hY⟩ : ∃ Y, Y = denF T D := ⟨_, rfl⟩
  rw [← hf, ← hX, ← hY]
  have HX : Hid (f = arF n xs ys m us vs T D ∧ (X = numF T D ∧ Y = denF T D) ∧ T = subT n xs ys m us vs ∧ D = nv ys * nv vs) := ⟨hf, ⟨hX, hY⟩, hT, hD⟩
  clear hf hX hY hT hD
  obtain ⟨V, hVe⟩ : ∃ V, V = (((w.alloc (.cells #[.bool n, .slice a la ca, .slice b lb cb] 27)).alloc (.cells #[.bool m, .slice c lc cc, .slice d ld cd] 27)).alloc (.cells #[.bool false, .slice none 0 0, .slice none 0 0] 27)) := ⟨_, rfl⟩
  have hv1 := balloc w (.cells #[.bool n, .slice a la ca, .slice b lb cb] 27)
  have hv2 := balloc (w.alloc (.cells #[.bool n, .slice a la ca, .slice b lb cb] 27)) (.cells #[.bool m, .slice c lc cc, .slice d ld cd] 27)
  have hv3 := balloc ((w.alloc (.cells #[.bool n, .slice a la ca, .slice b lb cb] 27)).alloc (.cells #[.bool m, .slice c lc cc, .slice d ld cd] 27)) (.cells #[.bool false, .slice none 0 0, .slice none 0 0] 27)
  have hV := bthen (bthen hv1 hv2) hv3
  have hA := (Cell3.new w n a b la ca lb cb).below (bthen hv2 hv3)
  have hB := (Cell3.new (w.alloc (.cells #[.bool n, .slice a la ca, .slice b lb cb] 27)) m c d lc cc ld cd).below (hv3)
  have hR := (Cell3.new ((w.alloc (.cells #[.bool n, .slice a la ca, .slice b lb cb] 27)).alloc (.cells #[.bool m, .slice c lc cc, .slice d ld cd] 27)) false none none 0 0 0 0)
  simp only [World.size_alloc] at hB hR
  rw [← hVe] at hV hA hB hR
  have HVe : Hid (V = (((w.alloc (.cells #[.bool n, .slice a la ca, .slice b lb cb] 27)).alloc (.cells #[.bool m, .slice c lc cc, .slice d ld cd] 27)).alloc (.cells #[.bool false, .slice none 0 0, .slice none 0 0] 27))) := hVe
  replace h1 := h1.below hV
  replace h2 := h2.below hV
  replace h3 := h3.below hV
  replace h4 := h4.below hV
  clear hv1 hv2 hv3 hVe
  go_enter Try.func23, Try.ntmps23
  go_wp2_with fail
  rw [← HVe.out]
  obtain ⟨G, hG⟩ : ∃ G, G = w.heap.size := ⟨_, rfl⟩
  rw [← hG] at hA hB hR
  rw [← hG]
  have HG : Hid (G = w.heap.size) := hG
  obtain ⟨c0, c1, c2, -, -, -⟩ := hA
  have hGV : G + 1 < V.heap.size := hB.lt
  obtain ⟨e0, e1, e2, -, -, -⟩ := hB
  clear HVe hG
  refine (r8right_any n _ _ _ _ _ _ _ _ _ h1 h2).mono ?_
  rintro e w1 ⟨rfl, hb1⟩
  have hB1 := bthen hV hb1
  replace h1 := h1.below hb1
  replace h2 := h2.below hb1
  replace h3 := h3.below hb1
  replace h4 := h4.below hb1
  replace c0 := bkeep hb1 c0 rfl
  replace c1 := bkeep hb1 c1 rfl
  replace c2 := bkeep hb1 c2 rfl
  replace e0 := bkeep hb1 e0 rfl
  replace e1 := bkeep hb1 e1 rfl
  replace e2 := bkeep hb1 e2 rfl
  replace hGV := Nat.lt_of_lt_of_le hGV hb1.size
  replace hR := hR.below hb1
  clear hb1 hV
  go_wp2_with fail
  refine (r8right_any m _ _ _ _ _ _ _ _ _ h3 h4).mono ?_
  rintro e w2 ⟨rfl, hb2⟩
  have hB2 := bthen hB1 hb2
  replace h1 := h1.below hb2
  replace h2 := h2.below hb2
  replace h3 := h3.below hb2
  replace h4 := h4.below hb2
  replace c0 := bkeep hb2 c0 rfl
  replace c1 := bkeep hb2 c1 rfl
  replace c2 := bkeep hb2 c2 rfl
  replace e0 := bkeep hb2 e0 rfl
  replace e1 := bkeep hb2 e1 rfl
  replace e2 := bkeep hb2 e2 rfl
  replace hGV := Nat.lt_of_lt_of_le hGV hb2.size
  replace hR := hR.below hb2
  clear hb2 hB1
  cases hr1 : rightF n xs ys with
  | false =>
    have HF : Hid (ToldF f X Y false [] [] 1) := ToldF.bad (by rw [HX.out.1]; unfold arF; rw [hr1]; rfl)
    have hBB := put3_below hB2 (g := G + 1 + 1) (by rw [HG.out]; omega) (.bool false) (.slice none 0 0) (.slice none 0 0)
    obtain ⟨r0, r1, r2, f0, f1, f2⟩ := hR
    clear h1 h2 h3 h4 HX c0 c1 c2 e0 e1 e2 hGV hB2 HG
    go_wp2_with fail
    exact bodyPost_ret (v := .tuple #[.agg #[.bool false, .slice none 0 0, .slice none 0 0], .int .i64 1]) (by simp [results, Try.results23, go_sem, r0, r1, r2]) rfl ⟨false, none, 0, 0, none, 0, 0, [], [], 1, rfl, ⟨Nums.nil _, Nums.nil _⟩, HF.out, hBB⟩
  | true =>
  cases hr2 : rightF m us vs with
  | false =>
    have HF : Hid (ToldF f X Y false [] [] 1) := ToldF.bad (by rw [HX.out.1]; unfold arF; rw [hr2, Bool.and_false]; rfl)
    have hBB := put3_below hB2 (g := G + 1 + 1) (by rw [HG.out]; omega) (.bool false) (.slice none 0 0) (.slice none 0 0)
    obtain ⟨r0, r1, r2, f0, f1, f2⟩ := hR
    clear h1 h2 h3 h4 HX c0 c1 c2 e0 e1 e2 hGV hB2 HG
    go_wp2_with fail
    exact bodyPost_ret (v := .tuple #[.agg #[.bool false, .slice none 0 0, .slice none 0 0], .int .i64 1]) (by simp [results, Try.results23, go_sem, r0, r1, r2]) rfl ⟨false, none, 0, 0, none, 0, 0, [], [], 1, rfl, ⟨Nums.nil _, Nums.nil _⟩, HF.out, hBB⟩
  | true =>
    obtain ⟨k1, k2⟩ := sub_add (n := n) (xs := xs) (ys := ys) h3.digs hr2
    replace HX : Hid (arF n xs ys (negN m us) (negL m us) vs (addT n xs ys (negN m us) (negL m us) vs) (nv ys * nv vs) = f ∧ numF (addT n xs ys (negN m us) (negL m us) vs) (nv ys * nv vs) = X ∧ denF (addT n xs ys (negN m us) (negL m us) vs) (nv ys * nv vs) = Y) := by
      obtain ⟨e1, ⟨e2, e3⟩, e4, e5⟩ := HX.out
      show _ ∧ _ ∧ _
      rw [k1, k2, e1, e2, e3, e4, e5]
      exact ⟨rfl, rfl, rfl⟩
    obtain ⟨W, hW⟩ : ∃ W, W = w2 := ⟨_, rfl⟩
    subst hW
    have HRB : Hid (Below W.heap.size W W) := Below.refl _ _
    have HNe : Hid (∀ wx : World, Below W.heap.size W wx → Calls Try.prog 54 #[.agg #[.bool m, .slice c lc cc]] wx fun e w' => ∃ nb na nl nc, e = .returned (.agg #[.bool nb, .slice na nl nc]) ∧ Hid (nb = negN m us ∧ Nums w' na nl nc (negL m us) ∧ Below W.heap.size W w') ∧ (w'.cell? ⟨G, 0, none⟩ = some (.bool n) ∧ w'.cell? ⟨G, 1, none⟩ = some (.slice a la ca) ∧ w'.cell? ⟨G, 2, none⟩ = some (.slice b lb cb) ∧ w'.cell? ⟨G + 1, 0, none⟩ = some (.bool m) ∧ w'.cell? ⟨G + 1, 1, none⟩ = some (.slice c lc cc) ∧ w'.cell? ⟨G + 1, 2, none⟩ = some (.slice d ld cd))) := by
      intro wx hbx
      refine (refINeg_any m _ _ _ _ wx (h3.below hbx)).mono ?_
      rintro e w' ⟨na, nl, nc, rfl, hn, hb⟩
      have hb' := bthen hbx hb
      exact ⟨_, _, _, _, rfl, ⟨rfl, hn, hb'⟩, ⟨bkeep hb' c0 rfl, bkeep hb' c1 rfl, bkeep hb' c2 rfl, bkeep hb' e0 rfl, bkeep hb' e1 rfl, bkeep hb' e2 rfl⟩⟩
    have HAd : Hid (∀ (wx : World) nb na nl nc, (nb = negN m us ∧ Nums wx na nl nc (negL m us) ∧ Below W.heap.size W wx) → Calls Try.prog 21 #[.agg #[.bool n, .slice a la ca, .slice b lb cb], .agg #[.bool nb, .slice na nl nc, .slice d ld cd]] wx fun e w' => ∃ zb za zl zc za' zl' zc' err, e = .returned (.tuple #[.agg #[.bool zb, .slice za zl zc, .slice za' zl' zc'], .int .i64 err]) ∧ Hid (∃ zs zs', Nums w' za zl zc zs ∧ Nums w' za' zl' zc' zs' ∧ ToldF f X Y zb zs zs' err ∧ Below W.heap.size W w') ∧ Cell3 w' (G + 1 + 1) false none 0 0 none 0 0 ∧ (w'.cell? ⟨G, 0, none⟩ = some (.bool n) ∧ w'.cell? ⟨G, 1, none⟩ = some (.slice a la ca) ∧ w'.cell? ⟨G, 2, none⟩ = some (.slice b lb cb) ∧ w'.cell? ⟨G + 1, 0, none⟩ = some (.bool m) ∧ w'.cell? ⟨G + 1, 1, none⟩ = some (.slice c lc cc) ∧ w'.cell? ⟨G + 1, 2, none⟩ = some (.slice d ld cd))) := by
      rintro wx nb na nl nc ⟨rfl, hn, hbx⟩
      have hadd := r8add_any n (negN m us) _ _ _ _ _ _ _ _ _ _ _ _ xs ys (negL m us) vs wx (h1.below hbx) (h2.below hbx) hn (h4.below hbx)
      rw [HX.out.1, HX.out.2.1, HX.out.2.2] at hadd
      refine hadd.mono ?_
      rintro e w' ⟨zb, za, zl, zc, za', zl', zc', zs, zs', err, rfl, ⟨hZ, hZ'⟩, hTold, hb⟩
      have hb' := bthen hbx hb
      exact ⟨zb, za, zl, zc, za', zl', zc', err, rfl, ⟨zs, zs', hZ, hZ', hTold, hb'⟩, hR.below hb', ⟨bkeep hb' c0 rfl, bkeep hb' c1 rfl, bkeep hb' c2 rfl, bkeep hb' e0 rfl, bkeep hb' e1 rfl, bkeep hb' e2 rfl⟩⟩
    clear HX hR h1 h2 h3 h4 k1 k2
    go_wp2_with fail
    go_region_held3 (fun w' => (w'.cell? ⟨G, 0, none⟩ = some (.bool n) ∧ w'.cell? ⟨G, 1, none⟩ = some (.slice a la ca) ∧ w'.cell? ⟨G, 2, none⟩ = some (.slice b lb cb) ∧ w'.cell? ⟨G + 1, 0, none⟩ = some (.bool m) ∧ w'.cell? ⟨G + 1, 1, none⟩ = some (.slice c lc cc) ∧ w'.cell? ⟨G + 1, 2, none⟩ = some (.slice d ld cd))) (first | exact n6 | exact o6 | exact keep6 (by omega) (by omega) _ _ _ o6 | go_keep)
        (first
        | (go_at_call 54; with_reducible refine Calls.mono (HNe.out _ ?_) ?_; (focus (repeat (first | exact HRB.out | refine bdrawD ?_ | refine bgrowD ?_ _))); rintro e w3 ⟨nb, na, nl, nc, rfl, hA, n6⟩)
        | (go_at_call 21; with_reducible refine Calls.mono (HAd.out _ nb na nl nc ?_) ?_; (exact hA.out); rintro e w4 ⟨zb, za, zl, zc, za', zl', zc', err, rfl, hZ, ⟨r0, r1, r2, f0, f1, f2⟩, o6⟩))
    all_goals
      clear HNe HAd HRB hA
      go_wp2_with fail
      obtain ⟨zs, zs', hZ1, hZ2, hTold, hb4⟩ := hZ.out
      have hRc : Cell3 w4 (G + 1 + 1) false none 0 0 none 0 0 := ⟨r0, r1, r2, f0, f1, f2⟩
      have k1 := Nums.put3 hRc hZ1 (.bool zb) (.slice za zl zc) (.slice za' zl' zc')
      have k2 := Nums.put3 hRc hZ2 (.bool zb) (.slice za zl zc) (.slice za' zl' zc')
      have hBB := put3_below (bthen hB2 hb4) (g := G + 1 + 1) (by rw [HG.out]; omega) (.bool zb) (.slice za zl zc) (.slice za' zl' zc')
      exact bodyPost_ret (v := .tuple #[.agg #[.bool zb, .slice za zl zc, .slice za' zl' zc'], .int .i64 err]) (by simp [results, Try.results23, go_sem, r0, r1, r2]) rfl ⟨zb, za, zl, zc, za', zl', zc', zs, zs', err, rfl, ⟨k1, k2⟩, hTold, hBB⟩

end Go.Proofs.Ytfeapegdaffckaa

/-
  The contract of the document's Mul of fractions.
-/
import Derived.Test.YtfeapegdaffckaaRef8E
namespace Go.Proofs.Ytfeapegdaffckaa
open Go.RowKit

set_option maxRecDepth 20000 in
set_option maxHeartbeats 20000000 in
theorem r8mul_any (n m : Bool) (a b c d : Option Addr) (la ca lb cb lc cc ld cd : Nat) (xs ys us vs : List Int) (w : World) (h1 : Nums w a la ca xs) (h2 : Nums w b lb cb ys) (h3 : Nums w c lc cc us) (h4 : Nums w d ld cd vs) :
    Calls Try.prog 25 #[.agg #[.bool n, .slice a la ca, .slice b lb cb], .agg #[.bool m, .slice c lc cc, .slice d ld cd]] w fun e w' => FracT (arF n xs ys m us vs (mulT n xs m us) (nv ys * nv vs)) (numF (mulT n xs m us) (nv ys * nv vs)) (denF (mulT n xs m us) (nv ys * nv vs)) w e w' := by
  obtain ⟨T, hT⟩ : ∃ T, T = mulT n xs m us := ⟨_, rfl⟩
  rw [← hT]
  obtain ⟨D, hD⟩ : ∃ D, D = nv ys * nv vs := ⟨_, rfl⟩
  rw [← hD]
  obtain ⟨f, hf⟩ : ∃ f, f = arF n xs ys m us vs T D := ⟨_, rfl⟩
  obtain ⟨X, hX⟩ : ∃ X, X = numF T D := ⟨_, rfl⟩
  obtain ⟨Y, hY⟩ : ∃ Y, Y = denF T D := ⟨_, rfl⟩
  rw [← hf, ← hX, ← hY]
  have HX : Hid (f = arF n xs ys m us vs T D ∧ (X = numF T D ∧ Y = denF T D) ∧ T = mulT n xs m us ∧ D = nv ys * nv vs) := ⟨hf, ⟨hX, hY⟩, hT, hD⟩
  clear hf hX hY hT hD
  obtain ⟨V, hVe⟩ : ∃ V, V = (((w.alloc (.cells #[.bool n, .slice a la ca, .slice b lb cb] 27)).alloc (.cells #[.bool m, .slice c lc cc, .slice d ld cd] 27)).alloc (.cells #[.bool false, .slice none 0 0, .slice none 0 0] 27)) := ⟨_, rfl⟩
  have hv1 := balloc w (.cells #[.bool n, .slice a la ca, .slice b lb cb] 27)
  have hv2 := balloc (w.alloc (.cells #[.bool n, .slice a la ca, .slice b lb cb] 27)) (.cells #[.bool m, .slice c lc cc, .slice d ld cd] 27)
  have hv3 := balloc ((w.alloc (.cells #[.bool n, .slice a la ca, .slice b lb cb] 27)).alloc (.cells #[.bool m, .slice c lc cc, .slice d ld cd] 27)) (.cells #[.bool false, .slice none 0 0, .slice none 0 0] 27)
  have hV := bthen (bthen hv1 hv2) hv3
  have hA := (Cell3.new w n a b la ca lb cb).below (bthen hv2 hv3)
  have hB := (Cell3.new (w.alloc (.cells #[.bool n, .slice a la ca, .slice b lb cb] 27)) m c d lc cc ld cd).below (hv3)
  have hR := (Cell3.new ((w.alloc (.cells #[.bool n, .slice a la ca, .slice b lb cb] 27)).alloc (.cells #[.bool m, .slice c lc cc, .slice d ld cd] 27)) false none none 0 0 0 0)
  simp only [World.size_alloc] at hB hR
  rw [← hVe] at hV hA hB hR
  have HVe : Hid (V = (((w.alloc (.cells #[.bool n, .slice a la ca, .slice b lb cb] 27)).alloc (.cells #[.bool m, .slice c lc cc, .slice d ld cd] 27)).alloc (.cells #[.bool false, .slice none 0 0, .slice none 0 0] 27))) := hVe
  replace h1 := h1.below hV
  replace h2 := h2.below hV
  replace h3 := h3.below hV
  replace h4 := h4.below hV
  clear hv1 hv2 hv3 hVe
  go_enter Try.func25, Try.ntmps25
  go_wp2_with fail
  rw [← HVe.out]
  obtain ⟨G, hG⟩ : ∃ G, G = w.heap.size := ⟨_, rfl⟩
  rw [← hG] at hA hB hR
  rw [← hG]
  have HG : Hid (G = w.heap.size) := hG
  obtain ⟨c0, c1, c2, -, -, -⟩ := hA
  have hGV : G + 1 < V.heap.size := hB.lt
  obtain ⟨e0, e1, e2, -, -, -⟩ := hB
  clear HVe hG
  refine (r8right_any n _ _ _ _ _ _ _ _ _ h1 h2).mono ?_
  rintro e w1 ⟨rfl, hb1⟩
  have hB1 := bthen hV hb1
  replace h1 := h1.below hb1
  replace h2 := h2.below hb1
  replace h3 := h3.below hb1
  replace h4 := h4.below hb1
  replace c0 := bkeep hb1 c0 rfl
  replace c1 := bkeep hb1 c1 rfl
  replace c2 := bkeep hb1 c2 rfl
  replace e0 := bkeep hb1 e0 rfl
  replace e1 := bkeep hb1 e1 rfl
  replace e2 := bkeep hb1 e2 rfl
  replace hGV := Nat.lt_of_lt_of_le hGV hb1.size
  replace hR := hR.below hb1
  clear hb1 hV
  go_wp2_with fail
  refine (r8right_any m _ _ _ _ _ _ _ _ _ h3 h4).mono ?_
  rintro e w2 ⟨rfl, hb2⟩
  have hB2 := bthen hB1 hb2
  replace h1 := h1.below hb2
  replace h2 := h2.below hb2
  replace h3 := h3.below hb2
  replace h4 := h4.below hb2
  replace c0 := bkeep hb2 c0 rfl
  replace c1 := bkeep hb2 c1 rfl
  replace c2 := bkeep hb2 c2 rfl
  replace e0 := bkeep hb2 e0 rfl
  replace e1 := bkeep hb2 e1 rfl
  replace e2 := bkeep hb2 e2 rfl
  replace hGV := Nat.lt_of_lt_of_le hGV hb2.size
  replace hR := hR.below hb2
  clear hb2 hB1
  cases hr1 : rightF n xs ys with
  | false =>
    have HF : Hid (ToldF f X Y false [] [] 1) := ToldF.bad (by rw [HX.out.1]; unfold arF; rw [hr1]; rfl)
    have hBB := put3_below hB2 (g := G + 1 + 1) (by rw [HG.out]; omega) (.bool false) (.slice none 0 0) (.slice none 0 0)
    obtain ⟨r0, r1, r2, f0, f1, f2⟩ := hR
    clear h1 h2 h3 h4 HX c0 c1 c2 e0 e1 e2 hGV hB2 HG
    go_wp2_with fail
    exact bodyPost_ret (v := .tuple #[.agg #[.bool false, .slice none 0 0, .slice none 0 0], .int .i64 1]) (by simp [results, Try.results25, go_sem, r0, r1, r2]) rfl ⟨false, none, 0, 0, none, 0, 0, [], [], 1, rfl, ⟨Nums.nil _, Nums.nil _⟩, HF.out, hBB⟩
  | true =>
  cases hr2 : rightF m us vs with
  | false =>
    have HF : Hid (ToldF f X Y false [] [] 1) := ToldF.bad (by rw [HX.out.1]; unfold arF; rw [hr2, Bool.and_false]; rfl)
    have hBB := put3_below hB2 (g := G + 1 + 1) (by rw [HG.out]; omega) (.bool false) (.slice none 0 0) (.slice none 0 0)
    obtain ⟨r0, r1, r2, f0, f1, f2⟩ := hR
    clear h1 h2 h3 h4 HX c0 c1 c2 e0 e1 e2 hGV hB2 HG
    go_wp2_with fail
    exact bodyPost_ret (v := .tuple #[.agg #[.bool false, .slice none 0 0, .slice none 0 0], .int .i64 1]) (by simp [results, Try.results25, go_sem, r0, r1, r2]) rfl ⟨false, none, 0, 0, none, 0, 0, [], [], 1, rfl, ⟨Nums.nil _, Nums.nil _⟩, HF.out, hBB⟩
  | true =>
    obtain ⟨hxW, hyN, hy0, hg1, hx16, hy16⟩ := rightF_parts h1.digs h2.digs hr1
    obtain ⟨huW, hvN, hv0, hg2, hu16, hv16⟩ := rightF_parts h3.digs h4.digs hr2
    obtain ⟨x, hxe⟩ : ∃ x, x = iv n xs := ⟨_, rfl⟩
    obtain ⟨y, hye⟩ : ∃ y, y = nv ys := ⟨_, rfl⟩
    obtain ⟨u, hue⟩ : ∃ u, u = iv m us := ⟨_, rfl⟩
    obtain ⟨v, hve⟩ : ∃ v, v = nv vs := ⟨_, rfl⟩
    rw [← hxe] at hxW hg1 hx16
    rw [← hye] at hyN hy0 hg1 hy16
    rw [← hue] at huW hg2 hu16
    rw [← hve] at hvN hv0 hg2 hv16
    have HT : Hid (T = x * u ∧ ((x * u).natAbs : Int) < 18446744073709551616 ^ 64) := ⟨by rw [HX.out.2.2.1, hxe, hue]; rfl, by
      rw [Int.natAbs_mul]
      exact den_16 (y := x.natAbs) (v := u.natAbs) hx16 hu16⟩
    have hD : D = y * v := by rw [HX.out.2.2.2, hye, hve]
    have HD : Hid (D = y * v ∧ ((D : Nat) : Int) < 18446744073709551616 ^ 64) := ⟨hD, by rw [hD]; exact den_16 hy16 hv16⟩
    clear hD
    replace HX : Hid (f = makF T D ∧ X = numF T D ∧ Y = denF T D) := ⟨by rw [HX.out.1]; unfold arF; rw [hr1, hr2]; rfl, HX.out.2.1.1, HX.out.2.1.2⟩
    obtain ⟨W, hW⟩ : ∃ W, W = w2 := ⟨_, rfl⟩
    subst hW
    clear hxe hye hue hve hg1 hg2 hx16 hy16 hu16 hv16 hy0 hv0
    have hYV : Hid (∀ wx, Below W.heap.size W wx → Calls Try.prog 52 #[.slice b lb cb, .slice d ld cd] wx fun e w' => ∃ da dl dc ds err, e = .returned (.tuple #[.slice da dl dc, .int .i64 err]) ∧ Nums w' da dl dc ds ∧ IsN ds D ∧ Below wx.heap.size wx w') := by
      intro wx hbx
      refine (refMul_any _ _ _ _ _ _ _ _ wx (h2.below hbx) (h4.below hbx)).mono ?_
      rintro e w' ⟨da, dl, dc, ds, err, rfl, hn, hRes, hb⟩
      have h3 := hRes.got hyN.2.1 hvN.2.1
      rw [hyN.2.2, hvN.2.2, ← Int.natCast_mul, ← HD.out.1] at h3
      exact ⟨da, dl, dc, ds, err, rfl, hn, (IsN.res h3 HD.out.2).1, hb⟩
    have HMu : Hid (Calls Try.prog 57 #[.agg #[.bool n, .slice a la ca], .agg #[.bool m, .slice c lc cc]] W fun e w' => ∃ mp ma mn mc, e = .returned (.tuple #[.agg #[.bool mp, .slice ma mn mc], .int .i64 0]) ∧ WAt w' mp ma mn mc T ∧ Below W.heap.size W w') := by
      refine (refIMul_any n m _ _ _ _ _ _ _ _ W h1 h3).mono ?_
      rintro e w' ⟨z, a', n', c', ls, err, rfl, hn, hRes, hb⟩
      have := hRes.got hxW.2.1 huW.2.1
      rw [hxW.2.2, huW.2.2] at this
      obtain ⟨h3, rfl⟩ := IsW.res this HT.out.2
      rw [← HT.out.1] at h3
      exact ⟨_, _, _, _, rfl, ⟨_, hn, h3⟩, hb⟩
    clear HT HD hxW hyN huW hvN h1 h2 h3 h4
    go_wp2_with fail
    refine Calls.mono HMu.out ?_
    rintro e w5 ⟨tb, ta, tl, tc, rfl, ⟨ts, hTn, hTs⟩, hb5⟩
    have HTs : Hid (IsW tb ts T) := hTs
    have hA5 := balloc w5 (.cells #[.bool tb, .slice ta tl tc] 25)
    have hbc := bthen hb5 hA5
    have hBc := bthen hB2 hbc
    have F8 := Cell2.new w5 tb ta tl tc
    replace hR := hR.below hbc
    replace c2 := bkeep hbc c2 rfl
    replace e2 := bkeep hbc e2 rfl
    replace hTn := hTn.below hA5
    obtain ⟨d0, d1, -, -⟩ := F8
    clear HMu hb5 hA5 c0 c1 e0 e1 hGV hB2 hTs
    go_wp2_with fail
    refine (hYV.out _ hbc).mono ?_
    rintro e w6 ⟨da, dl, dc, ds, err, rfl, hDn, hDN, hb6⟩
    have HDN : Hid (IsN ds D) := hDN
    have hB6 := bthen hBc hb6
    replace hTn := hTn.below hb6
    replace d0 := bkeep hb6 d0 rfl
    replace d1 := bkeep hb6 d1 rfl
    replace hR := hR.below hb6
    have HMk : Hid (∀ wx ds, Nums wx da dl dc ds → IsN ds D → Nums wx ta tl tc ts → Calls Try.prog 11 #[.agg #[.bool tb, .slice ta tl tc], .slice da dl dc] wx fun e w' => FracT f X Y wx e w') := by
      intro wx ds hd hdN ht
      have hm := r8make_any tb _ _ _ _ _ _ ts ds wx ht hd
      obtain ⟨k1, k2, k3⟩ := make_isW HTs.out hdN
      rw [k1, k2, k3, ← HX.out.1, ← HX.out.2.1, ← HX.out.2.2] at hm
      exact hm
    clear hYV hbc hBc hb6 c2 e2 hDN
    go_wp2_with fail
    refine (HMk.out _ ds hDn HDN.out hTn).mono ?_
    rintro e w7 ⟨zb, za, zl, zc, za', zl', zc', zs, zs', err, rfl, ⟨hZ, hZ'⟩, hTold, hb7⟩
    have HTd : Hid (ToldF f X Y zb zs zs' err) := hTold
    have hB7 := bthen hB6 hb7
    replace hR := hR.below hb7
    have k1 := Nums.put3 hR hZ (.bool zb) (.slice za zl zc) (.slice za' zl' zc')
    have k2 := Nums.put3 hR hZ' (.bool zb) (.slice za zl zc) (.slice za' zl' zc')
    have hBB := put3_below hB7 (g := G + 1 + 1) (by rw [HG.out]; omega) (.bool zb) (.slice za zl zc) (.slice za' zl' zc')
    obtain ⟨r0, r1, r2, f0, f1, f2⟩ := hR
    clear HMk HDN HTs hTn hDn hTold hb7 hB6 hB7 hZ hZ' d0 d1 HX HG
    go_wp2_with fail
    exact bodyPost_ret (v := .tuple #[.agg #[.bool zb, .slice za zl zc, .slice za' zl' zc'], .int .i64 err]) (by simp [results, Try.results25, go_sem, r0, r1, r2]) rfl ⟨zb, za, zl, zc, za', zl', zc', zs, zs', err, rfl, ⟨k1, k2⟩, HTd.out, hBB⟩

end Go.Proofs.Ytfeapegdaffckaa

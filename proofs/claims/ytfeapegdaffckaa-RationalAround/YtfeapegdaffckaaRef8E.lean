/-
  What is told of two fractions' sum, difference and product; contracts of the document's Add and Mul.
-/
import Derived.Test.YtfeapegdaffckaaRef8C
import Derived.Deep.RegionWith
import Derived.Deep.RegionHeld3
import Derived.BigRegion
import Derived.Test.YtfeapegdaffckaaRefA
namespace Go.Proofs.Ytfeapegdaffckaa
open Go.RowKit

/-- What is told of a reckoning with two fractions: a fault, or none. -/
def arF (n : Bool) (xs ys : List Int) (m : Bool) (us vs : List Int) (T : Int) (D : Nat) : Option Int := if rightF n xs ys && rightF m us vs then makF T D else some 1
def addT (n : Bool) (xs ys : List Int) (m : Bool) (us vs : List Int) : Int := iv n xs * (nv vs : Int) + iv m us * (nv ys : Int)
def subT (n : Bool) (xs ys : List Int) (m : Bool) (us vs : List Int) : Int := iv n xs * (nv vs : Int) - iv m us * (nv ys : Int)
def mulT (n : Bool) (xs : List Int) (m : Bool) (us : List Int) : Int := iv n xs * iv m us
theorem make_isW {n : Bool} {xs ys : List Int} {X : Int} {Y : Nat} (hW : IsW n xs X) (hN : IsN ys Y) : makeFF n xs ys = makF X Y ∧ numF (iv n xs) (nv ys) = numF X Y ∧ denF (iv n xs) (nv ys) = denF X Y := by
  have e1 := hW.2.2
  have e2 := hN.nv
  refine ⟨?_, by rw [e1, e2], by rw [e1, e2]⟩
  unfold makeFF
  rw [hW.2.1, hN.2.1, e1, e2]
  rfl
theorem den_16 {y v : Nat} (hy : ((y : Nat) : Int) < 18446744073709551616 ^ 16) (hv : ((v : Nat) : Int) < 18446744073709551616 ^ 16) : ((y * v : Nat) : Int) < 18446744073709551616 ^ 64 := by
  have h := prod_16 (x := (y : Int)) (v := v) (by simpa using hy) hv
  have e : (((y : Int) * (v : Int)).natAbs : Int) = ((y * v : Nat) : Int) := by
    rw [← Int.natCast_mul, Int.natAbs_natCast]
  rw [e] at h
  have h2 : (18446744073709551616 : Int) ^ 32 < 18446744073709551616 ^ 64 := by decide
  omega

set_option maxRecDepth 20000 in
set_option maxHeartbeats 20000000 in
theorem r8add_any (n m : Bool) (a b c d : Option Addr) (la ca lb cb lc cc ld cd : Nat) (xs ys us vs : List Int) (w : World) (h1 : Nums w a la ca xs) (h2 : Nums w b lb cb ys) (h3 : Nums w c lc cc us) (h4 : Nums w d ld cd vs) :
    Calls Try.prog 21 #[.agg #[.bool n, .slice a la ca, .slice b lb cb], .agg #[.bool m, .slice c lc cc, .slice d ld cd]] w fun e w' => FracT (arF n xs ys m us vs (addT n xs ys m us vs) (nv ys * nv vs)) (numF (addT n xs ys m us vs) (nv ys * nv vs)) (denF (addT n xs ys m us vs) (nv ys * nv vs)) w e w' := by
  obtain ⟨T, hT⟩ : ∃ T, T = addT n xs ys m us vs := ⟨_, rfl⟩
  rw [← hT]
  obtain ⟨D, hD⟩ : ∃ D, D = nv ys * nv vs := ⟨_, rfl⟩
  rw [← hD]
  obtain ⟨f, hf⟩ : ∃ f, f = arF n xs ys m us vs T D := ⟨_, rfl⟩
  obtain ⟨X, hX⟩ : ∃ X, X = numF T D := ⟨_, rfl⟩
  obtain ⟨Y, hY⟩ : ∃ Y, Y = denF T D := ⟨_, rfl⟩
  rw [← hf, ← hX, ← hY]
  have HX : Hid (f = arF n xs ys m us vs T D ∧ (X = numF T D ∧ Y = denF T D) ∧ T = addT n xs ys m us vs ∧ D = nv ys * nv vs) := ⟨hf, ⟨hX, hY⟩, hT, hD⟩
  clear hf hX hY hT hD
  obtain ⟨V, hVe⟩ : ∃ V, V = (((w.alloc (.cells #[.bool n, .slice a la ca, .slice b lb cb] 27)).alloc (.cells #[.bool m, .slice c lc cc, .slice d ld cd] 27)).alloc (.cells #[.bool false, .slice none 0 0, .slice none 0 0] 27)) := ⟨_, rfl⟩
  have hv1 := balloc w (.cells #[.bool n, .slice a la ca, .slice b lb cb] 27)
  have hv2 := balloc (w.alloc (.cells #[.bool n, .slice a la ca, .slice b lb cb] 27)) (.cells #[.bool m, .slice c lc cc, .slice d ld cd] 27)
  have hv3 := balloc ((w.alloc (.cells #[.bool n, .slice a la ca, .slice b lb cb] 27)).alloc (.cells #[.bool m, .slice c lc cc, .slice d ld cd] 27)) (.cells #[.bool false, .slice none 0 0, .slice none 0 0] 27)
  have hV := bthen (bthen hv1 hv2) hv3
  have hA := (Cell3.new w n a b la ca lb cb).below (bthen hv2 hv3)
  have hB := (Cell3.new (w.alloc (.cells #[.bool n, .slice a la ca, .slice b lb cb] 27)) m c d lc cc ld cd).below (hv3)
  have hR := (Cell3.new ((w.alloc (.cells #[.bool n, .slice a la ca, .slice b lb cb] 27)).alloc (.cells #[.bool m, .slice c lc cc, .slice d ld cd] 27)) false none none 0 0 0 0)
  simp only [World.size_alloc] at hB hR
  rw [← hVe] at hV hA hB hR
  have HVe : Hid (V = (((w.alloc (.cells #[.bool n, .slice a la ca, .slice b lb cb] 27)).alloc (.cells #[.bool m, .slice c lc cc, .slice d ld cd] 27)).alloc (.cells #[.bool false, .slice none 0 0, .slice none 0 0] 27))) := hVe
  replace h1 := h1.below hV
  replace h2 := h2.below hV
  replace h3 := h3.below hV
  replace h4 := h4.below hV
  clear hv1 hv2 hv3 hVe
  go_enter Try.func21, Try.ntmps21
  go_wp2_with fail
  rw [← HVe.out]
  obtain ⟨G, hG⟩ : ∃ G, G = w.heap.size := ⟨_, rfl⟩
  rw [← hG] at hA hB hR
  rw [← hG]
  have HG : Hid (G = w.heap.size) := hG
  obtain ⟨c0, c1, c2, -, -, -⟩ := hA
  have hGV : G + 1 < V.heap.size := hB.lt
  obtain ⟨e0, e1, e2, -, -, -⟩ := hB
  clear HVe hG
  refine (r8right_any n _ _ _ _ _ _ _ _ _ h1 h2).mono ?_
  rintro e w1 ⟨rfl, hb1⟩
  have hB1 := bthen hV hb1
  replace h1 := h1.below hb1
  replace h2 := h2.below hb1
  replace h3 := h3.below hb1
  replace h4 := h4.below hb1
  replace c0 := bkeep hb1 c0 rfl
  replace c1 := bkeep hb1 c1 rfl
  replace c2 := bkeep hb1 c2 rfl
  replace e0 := bkeep hb1 e0 rfl
  replace e1 := bkeep hb1 e1 rfl
  replace e2 := bkeep hb1 e2 rfl
  replace hGV := Nat.lt_of_lt_of_le hGV hb1.size
  replace hR := hR.below hb1
  clear hb1 hV
  go_wp2_with fail
  refine (r8right_any m _ _ _ _ _ _ _ _ _ h3 h4).mono ?_
  rintro e w2 ⟨rfl, hb2⟩
  have hB2 := bthen hB1 hb2
  replace h1 := h1.below hb2
  replace h2 := h2.below hb2
  replace h3 := h3.below hb2
  replace h4 := h4.below hb2
  replace c0 := bkeep hb2 c0 rfl
  replace c1 := bkeep hb2 c1 rfl
  replace c2 := bkeep hb2 c2 rfl
  replace e0 := bkeep hb2 e0 rfl
  replace e1 := bkeep hb2 e1 rfl
  replace e2 := bkeep hb2 e2 rfl
  replace hGV := Nat.lt_of_lt_of_le hGV hb2.size
  replace hR := hR.below hb2
  clear hb2 hB1
  cases hr1 : rightF n xs ys with
  | false =>
    have HF : Hid (ToldF f X Y false [] [] 1) := ToldF.bad (by rw [HX.out.1]; unfold arF; rw [hr1]; rfl)
    have hBB := put3_below hB2 (g := G + 1 + 1) (by rw [HG.out]; omega) (.bool false) (.slice none 0 0) (.slice none 0 0)
    obtain ⟨r0, r1, r2, f0, f1, f2⟩ := hR
    clear h1 h2 h3 h4 HX c0 c1 c2 e0 e1 e2 hGV hB2 HG
    go_wp2_with fail
    exact bodyPost_ret (v := .tuple #[.agg #[.bool false, .slice none 0 0, .slice none 0 0], .int .i64 1]) (by simp [results, Try.results21, go_sem, r0, r1, r2]) rfl ⟨false, none, 0, 0, none, 0, 0, [], [], 1, rfl, ⟨Nums.nil _, Nums.nil _⟩, HF.out, hBB⟩
  | true =>
  cases hr2 : rightF m us vs with
  | false =>
    have HF : Hid (ToldF f X Y false [] [] 1) := ToldF.bad (by rw [HX.out.1]; unfold arF; rw [hr2, Bool.and_false]; rfl)
    have hBB := put3_below hB2 (g := G + 1 + 1) (by rw [HG.out]; omega) (.bool false) (.slice none 0 0) (.slice none 0 0)
    obtain ⟨r0, r1, r2, f0, f1, f2⟩ := hR
    clear h1 h2 h3 h4 HX c0 c1 c2 e0 e1 e2 hGV hB2 HG
    go_wp2_with fail
    exact bodyPost_ret (v := .tuple #[.agg #[.bool false, .slice none 0 0, .slice none 0 0], .int .i64 1]) (by simp [results, Try.results21, go_sem, r0, r1, r2]) rfl ⟨false, none, 0, 0, none, 0, 0, [], [], 1, rfl, ⟨Nums.nil _, Nums.nil _⟩, HF.out, hBB⟩
  | true =>
    obtain ⟨hxW, hyN, hy0, hg1, hx16, hy16⟩ := rightF_parts h1.digs h2.digs hr1
    obtain ⟨huW, hvN, hv0, hg2, hu16, hv16⟩ := rightF_parts h3.digs h4.digs hr2
    obtain ⟨x, hxe⟩ : ∃ x, x = iv n xs := ⟨_, rfl⟩
    obtain ⟨y, hye⟩ : ∃ y, y = nv ys := ⟨_, rfl⟩
    obtain ⟨u, hue⟩ : ∃ u, u = iv m us := ⟨_, rfl⟩
    obtain ⟨v, hve⟩ : ∃ v, v = nv vs := ⟨_, rfl⟩
    rw [← hxe] at hxW hg1 hx16
    rw [← hye] at hyN hy0 hg1 hy16
    rw [← hue] at huW hg2 hu16
    rw [← hve] at hvN hv0 hg2 hv16
    obtain ⟨P, hP⟩ : ∃ P, P = x * (v : Int) := ⟨_, rfl⟩
    obtain ⟨Q, hQ⟩ : ∃ Q, Q = u * (y : Int) := ⟨_, rfl⟩
    have p1 := prod_16 hx16 hv16
    have p2 := prod_16 hu16 hy16
    have p3 : (18446744073709551616 : Int) ^ 32 + 18446744073709551616 ^ 32 < 18446744073709551616 ^ 64 := by decide
    have HPQ : Hid (((x * (v : Int)).natAbs : Int) < 18446744073709551616 ^ 64 ∧ ((u * (y : Int)).natAbs : Int) < 18446744073709551616 ^ 64 ∧ P = x * (v : Int) ∧ Q = u * (y : Int)) := ⟨by omega, by omega, hP, hQ⟩
    have HT : Hid (T = P + Q ∧ ((P + Q).natAbs : Int) < 18446744073709551616 ^ 64) := ⟨by rw [HX.out.2.2.1, hP, hQ, hxe, hye, hue, hve]; rfl, by rw [← hP] at p1; rw [← hQ] at p2; omega⟩
    have hD : D = y * v := by rw [HX.out.2.2.2, hye, hve]
    have HD : Hid (D = y * v ∧ ((D : Nat) : Int) < 18446744073709551616 ^ 64) := ⟨hD, by rw [hD]; exact den_16 hy16 hv16⟩
    clear hD
    replace HX : Hid (f = makF T D ∧ X = numF T D ∧ Y = denF T D) := ⟨by rw [HX.out.1]; unfold arF; rw [hr1, hr2]; rfl, HX.out.2.1.1, HX.out.2.1.2⟩
    obtain ⟨W, hW⟩ : ∃ W, W = w2 := ⟨_, rfl⟩
    subst hW
    clear p1 p2 p3 hP hQ hxe hye hue hve hg1 hg2 hx16 hy16 hu16 hv16 hy0 hv0
    have HRB : Hid (Below W.heap.size W W) := Below.refl _ _
    have HO1 : Hid (∀ wx : World, Below W.heap.size W wx → Calls Try.prog 50 #[.agg #[.bool n, .slice a la ca, .slice b lb cb], .agg #[.bool m, .slice c lc cc, .slice d ld cd]] wx fun e w' => ∃ pb pa pl pc, e = .returned (.agg #[.bool pb, .slice pa pl pc]) ∧ Hid (WAt w' pb pa pl pc P ∧ Below W.heap.size W w') ∧ (w'.cell? ⟨G, 0, none⟩ = some (.bool n) ∧ w'.cell? ⟨G, 1, none⟩ = some (.slice a la ca) ∧ w'.cell? ⟨G, 2, none⟩ = some (.slice b lb cb) ∧ w'.cell? ⟨G + 1, 0, none⟩ = some (.bool m) ∧ w'.cell? ⟨G + 1, 1, none⟩ = some (.slice c lc cc) ∧ w'.cell? ⟨G + 1, 2, none⟩ = some (.slice d ld cd)) ∧ G + 1 < w'.heap.size ∧ (∀ b o, b < wx.heap.size → w'.cell? ⟨b, o, none⟩ = wx.cell? ⟨b, o, none⟩) ∧ (∀ b o, b < wx.heap.size → w'.frozen? ⟨b, o, none⟩ = wx.frozen? ⟨b, o, none⟩) ∧ (∀ b, b < wx.heap.size → b < w'.heap.size)) := by
      intro wx hbx
      refine (r8over_any n m _ _ _ _ _ _ _ _ _ _ _ _ xs vs x v wx (h1.below hbx) (h4.below hbx) hxW hvN (by have := HPQ.out.1; omega)).mono ?_
      rintro e w' ⟨pb, pa, pl, pc, ps, rfl, hn, hw, hb⟩
      have hb' := bthen hbx hb
      rw [← HPQ.out.2.2.1] at hw
      exact ⟨_, _, _, _, rfl, ⟨⟨_, hn, hw⟩, hb'⟩, ⟨bkeep hb' c0 rfl, bkeep hb' c1 rfl, bkeep hb' c2 rfl, bkeep hb' e0 rfl, bkeep hb' e1 rfl, bkeep hb' e2 rfl⟩, Nat.lt_of_lt_of_le hGV hb'.size, bfactsD hb⟩
    have HO2 : Hid (∀ wx : World, Below W.heap.size W wx → Calls Try.prog 50 #[.agg #[.bool m, .slice c lc cc, .slice d ld cd], .agg #[.bool n, .slice a la ca, .slice b lb cb]] wx fun e w' => ∃ qb qa ql qc, e = .returned (.agg #[.bool qb, .slice qa ql qc]) ∧ Hid (WAt w' qb qa ql qc Q ∧ Below W.heap.size W w' ∧ ∀ n a l c, WAt wx n a l c P → WAt w' n a l c P) ∧ (w'.cell? ⟨G, 0, none⟩ = some (.bool n) ∧ w'.cell? ⟨G, 1, none⟩ = some (.slice a la ca) ∧ w'.cell? ⟨G, 2, none⟩ = some (.slice b lb cb) ∧ w'.cell? ⟨G + 1, 0, none⟩ = some (.bool m) ∧ w'.cell? ⟨G + 1, 1, none⟩ = some (.slice c lc cc) ∧ w'.cell? ⟨G + 1, 2, none⟩ = some (.slice d ld cd)) ∧ G + 1 < w'.heap.size ∧ (∀ b o, b < wx.heap.size → w'.cell? ⟨b, o, none⟩ = wx.cell? ⟨b, o, none⟩) ∧ (∀ b o, b < wx.heap.size → w'.frozen? ⟨b, o, none⟩ = wx.frozen? ⟨b, o, none⟩) ∧ (∀ b, b < wx.heap.size → b < w'.heap.size)) := by
      intro wx hbx
      refine (r8over_any m n _ _ _ _ _ _ _ _ _ _ _ _ us ys u y wx (h3.below hbx) (h2.below hbx) huW hyN (by have := HPQ.out.2.1; omega)).mono ?_
      rintro e w' ⟨pb, pa, pl, pc, ps, rfl, hn, hw, hb⟩
      have hb' := bthen hbx hb
      rw [← HPQ.out.2.2.2] at hw
      exact ⟨_, _, _, _, rfl, ⟨⟨_, hn, hw⟩, hb', fun _ _ _ _ hk => hk.below hb⟩, ⟨bkeep hb' c0 rfl, bkeep hb' c1 rfl, bkeep hb' c2 rfl, bkeep hb' e0 rfl, bkeep hb' e1 rfl, bkeep hb' e2 rfl⟩, Nat.lt_of_lt_of_le hGV hb'.size, bfactsD hb⟩

    have HAd : Hid (∀ (wx : World) pb pa pl pc qb qa ql qc, WAt wx pb pa pl pc P → WAt wx qb qa ql qc Q → Below W.heap.size W wx → Calls Try.prog 26 #[.agg #[.bool pb, .slice pa pl pc], .agg #[.bool qb, .slice qa ql qc]] wx fun e w' => ∃ mp ma mn mc, e = .returned (.tuple #[.agg #[.bool mp, .slice ma mn mc], .int .i64 0]) ∧ Hid (WAt w' mp ma mn mc T ∧ Below W.heap.size W w') ∧ (w'.cell? ⟨G, 0, none⟩ = some (.bool n) ∧ w'.cell? ⟨G, 1, none⟩ = some (.slice a la ca) ∧ w'.cell? ⟨G, 2, none⟩ = some (.slice b lb cb) ∧ w'.cell? ⟨G + 1, 0, none⟩ = some (.bool m) ∧ w'.cell? ⟨G + 1, 1, none⟩ = some (.slice c lc cc) ∧ w'.cell? ⟨G + 1, 2, none⟩ = some (.slice d ld cd)) ∧ G + 1 < w'.heap.size ∧ (∀ b o, b < wx.heap.size → w'.cell? ⟨b, o, none⟩ = wx.cell? ⟨b, o, none⟩) ∧ (∀ b o, b < wx.heap.size → w'.frozen? ⟨b, o, none⟩ = wx.frozen? ⟨b, o, none⟩) ∧ (∀ b, b < wx.heap.size → b < w'.heap.size)) := by
      rintro wx pb pa pl pc qb qa ql qc ⟨ps, hp, hpW⟩ ⟨qs, hq, hqW⟩ hbx
      refine (refIAdd_any pb qb _ _ _ _ _ _ _ _ wx hp hq).mono ?_
      rintro e w' ⟨z, a', n', c', ls, err, rfl, hn, hRes, hb⟩
      have hb' := bthen hbx hb
      have := hRes.got hpW.2.1 hqW.2.1
      rw [hpW.2.2, hqW.2.2] at this
      obtain ⟨h3, rfl⟩ := IsW.res this HT.out.2
      rw [← HT.out.1] at h3
      exact ⟨_, _, _, _, rfl, ⟨⟨_, hn, h3⟩, hb'⟩, ⟨bkeep hb' c0 rfl, bkeep hb' c1 rfl, bkeep hb' c2 rfl, bkeep hb' e0 rfl, bkeep hb' e1 rfl, bkeep hb' e2 rfl⟩, Nat.lt_of_lt_of_le hGV hb'.size, bfactsD hb⟩
    have hYV : Hid (∀ wx, Below W.heap.size W wx → Calls Try.prog 52 #[.slice b lb cb, .slice d ld cd] wx fun e w' => ∃ da dl dc ds err, e = .returned (.tuple #[.slice da dl dc, .int .i64 err]) ∧ Nums w' da dl dc ds ∧ IsN ds D ∧ Below wx.heap.size wx w') := by
      intro wx hbx
      refine (refMul_any _ _ _ _ _ _ _ _ wx (h2.below hbx) (h4.below hbx)).mono ?_
      rintro e w' ⟨da, dl, dc, ds, err, rfl, hn, hRes, hb⟩
      have h3 := hRes.got hyN.2.1 hvN.2.1
      rw [hyN.2.2, hvN.2.2, ← Int.natCast_mul, ← HD.out.1] at h3
      exact ⟨da, dl, dc, ds, err, rfl, hn, (IsN.res h3 HD.out.2).1, hb⟩
    clear HPQ HT HD hxW hyN huW hvN h1 h2 h3 h4
    go_wp2_with fail
    go_cut [8] from 23 to 32 (fun pv wx => ∃ g8, pv = .pointer (some ⟨g8, 0, none⟩) ∧ Fac wx g8 T ∧ Below W.heap.size W wx)
    case first =>
      clear HX hYV hB2 hR HG
      have ne0 := World.new_ne W ⟨G, 0, none⟩ c0
      have ne1 := World.new_ne W ⟨G + 1, 0, none⟩ e0
      go_region_held3 (fun w' => (w'.cell? ⟨G, 0, none⟩ = some (.bool n) ∧ w'.cell? ⟨G, 1, none⟩ = some (.slice a la ca) ∧ w'.cell? ⟨G, 2, none⟩ = some (.slice b lb cb) ∧ w'.cell? ⟨G + 1, 0, none⟩ = some (.bool m) ∧ w'.cell? ⟨G + 1, 1, none⟩ = some (.slice c lc cc) ∧ w'.cell? ⟨G + 1, 2, none⟩ = some (.slice d ld cd))) (first | go_keep | exact n6 | exact o6 | exact q6 | exact ⟨(put2_other (by omega) _ _).trans o6.1, (put2_other (by omega) _ _).trans o6.2.1, (put2_other (by omega) _ _).trans o6.2.2.1, (put2_other (by omega) _ _).trans o6.2.2.2.1, (put2_other (by omega) _ _).trans o6.2.2.2.2.1, (put2_other (by omega) _ _).trans o6.2.2.2.2.2⟩)
        (first
        | (go_at_call 50; with_reducible refine Calls.mono (HO1.out _ ?_) ?_; (focus (repeat (first | exact HRB.out | refine bdrawD ?_ | refine bgrowD ?_ _))); rintro e w3 ⟨pb, pa, pl, pc, rfl, hA, n6, n7, hc3, hf3, hs3⟩; have ne3 := World.new_ne w3 ⟨G, 0, none⟩ n6.1; have ne4 := World.new_ne w3 ⟨G + 1, 0, none⟩ n6.2.2.2.1; (try have k30 := hs3 (W.heap.size) (by first | omega | (simp; done) | (simp; omega))); (try have m300 := hc3 (W.heap.size) 0 (by first | omega | (simp; done) | (simp; omega))); (try have f300 := hf3 (W.heap.size) 0 (by first | omega | (simp; done) | (simp; omega))); (try have m301 := hc3 (W.heap.size) 1 (by first | omega | (simp; done) | (simp; omega))); (try have f301 := hf3 (W.heap.size) 1 (by first | omega | (simp; done) | (simp; omega))); clear hc3 hf3 hs3)
        | (go_at_call 50; with_reducible refine Calls.mono (HO2.out _ ?_) ?_; (focus (repeat (first | exact hA.out.2 | refine bdrawD ?_ | refine bgrowD ?_ _))); rintro e w4 ⟨qb, qa, ql, qc, rfl, hB, q6, q7, hc4, hf4, hs4⟩; have ne5 := World.new_ne w4 ⟨G, 0, none⟩ q6.1; have ne6 := World.new_ne w4 ⟨G + 1, 0, none⟩ q6.2.2.2.1; have hA4 := hB.out.2.2 pb pa pl pc (by (focus (repeat (first | exact hA.out.1 | refine WAt.drew ?_ | refine WAt.grow ?_ _)))); (try have k40 := hs4 (W.heap.size) (by first | omega | (simp; done) | (simp; omega))); (try have m400 := hc4 (W.heap.size) 0 (by first | omega | (simp; done) | (simp; omega))); (try have f400 := hf4 (W.heap.size) 0 (by first | omega | (simp; done) | (simp; omega))); (try have m401 := hc4 (W.heap.size) 1 (by first | omega | (simp; done) | (simp; omega))); (try have f401 := hf4 (W.heap.size) 1 (by first | omega | (simp; done) | (simp; omega))); (try have k41 := hs4 (w3.heap.size) (by first | omega | (simp; done) | (simp; omega))); (try have m410 := hc4 (w3.heap.size) 0 (by first | omega | (simp; done) | (simp; omega))); (try have f410 := hf4 (w3.heap.size) 0 (by first | omega | (simp; done) | (simp; omega))); (try have m411 := hc4 (w3.heap.size) 1 (by first | omega | (simp; done) | (simp; omega))); (try have f411 := hf4 (w3.heap.size) 1 (by first | omega | (simp; done) | (simp; omega))); clear hc4 hf4 hs4)
        | (go_at_call 26; with_reducible refine Calls.mono (HAd.out _ pb pa pl pc qb qa ql qc ?_ ?_ ?_) ?_; (focus (repeat (first | exact hA4 | refine WAt.drew ?_ | refine WAt.grow ?_ _))); (focus (repeat (first | exact hB.out.1 | refine WAt.drew ?_ | refine WAt.grow ?_ _))); (focus (repeat (first | exact hB.out.2.1 | refine bdrawD ?_ | refine bgrowD ?_ _))); rintro e w5 ⟨mp, ma, mn, mc, rfl, hM, o6, o7, hc5, hf5, hs5⟩; have ne7 := World.new_ne w5 ⟨G, 0, none⟩ o6.1; have ne8 := World.new_ne w5 ⟨G + 1, 0, none⟩ o6.2.2.2.1; (try have k50 := hs5 (W.heap.size) (by first | omega | (simp; done) | (simp; omega))); (try have m500 := hc5 (W.heap.size) 0 (by first | omega | (simp; done) | (simp; omega))); (try have f500 := hf5 (W.heap.size) 0 (by first | omega | (simp; done) | (simp; omega))); (try have m501 := hc5 (W.heap.size) 1 (by first | omega | (simp; done) | (simp; omega))); (try have f501 := hf5 (W.heap.size) 1 (by first | omega | (simp; done) | (simp; omega))); (try have k51 := hs5 (w3.heap.size) (by first | omega | (simp; done) | (simp; omega))); (try have m510 := hc5 (w3.heap.size) 0 (by first | omega | (simp; done) | (simp; omega))); (try have f510 := hf5 (w3.heap.size) 0 (by first | omega | (simp; done) | (simp; omega))); (try have m511 := hc5 (w3.heap.size) 1 (by first | omega | (simp; done) | (simp; omega))); (try have f511 := hf5 (w3.heap.size) 1 (by first | omega | (simp; done) | (simp; omega))); (try have k52 := hs5 (w4.heap.size) (by first | omega | (simp; done) | (simp; omega))); (try have m520 := hc5 (w4.heap.size) 0 (by first | omega | (simp; done) | (simp; omega))); (try have f520 := hf5 (w4.heap.size) 0 (by first | omega | (simp; done) | (simp; omega))); (try have m521 := hc5 (w4.heap.size) 1 (by first | omega | (simp; done) | (simp; omega))); (try have f521 := hf5 (w4.heap.size) 1 (by first | omega | (simp; done) | (simp; omega))); clear hc5 hf5 hs5))
      all_goals
        have hz5 := hM.out.2.size
        have hz4 := hB.out.2.1.size
        have hz3 := hA.out.2.size
        clear HO1 HO2 HAd HRB hA4
        go_wp2_with fail
        go_meet
        case rel =>
          obtain ⟨⟨ms, hMs, hMW⟩, hbM⟩ := hM.out
          first
            | exact ⟨_, rfl, fac_alloc hMs hMW.2.1 hMW.2.2, bgrowD hbM _⟩
            | (refine ⟨_, rfl, fac_put (q := false) (sa := none) (sn := 0) (sc := 0) ?_ ?_ ?_ ?_ hMs hMW.2.1 hMW.2.2, (hbM.setCell ?_ _).setCell ?_ _⟩
               · go_simp
               · go_simp
               · go_simp
               · go_simp
               · first | (simp; done) | (simp; omega)
               · first | (simp; done) | (simp; omega))
    case rest =>
      obtain ⟨g8, rfl, F8, hbc⟩ := hcut
      have hBc := bthen hB2 hbc
      replace hR := hR.below hbc
      replace c2 := bkeep hbc c2 rfl
      replace e2 := bkeep hbc e2 rfl
      clear HO1 HO2 HAd HRB c0 c1 e0 e1 hGV hB2
      obtain ⟨tb, ta, tl, tc, ts, ⟨d0, d1⟩, -, hTn, hTr, hTv⟩ := F8
      have HTs : Hid (IsW tb ts T) := ⟨hTn.digs, hTr, hTv⟩
      clear hTr hTv
      go_wp2_with fail
      refine (hYV.out _ hbc).mono ?_
      rintro e w6 ⟨da, dl, dc, ds, err, rfl, hDn, hDN, hb6⟩
      have HDN : Hid (IsN ds D) := hDN
      have hB6 := bthen hBc hb6
      replace hTn := hTn.below hb6
      replace d0 := bkeep hb6 d0 rfl
      replace d1 := bkeep hb6 d1 rfl
      replace hR := hR.below hb6
      have HMk : Hid (∀ wx ds, Nums wx da dl dc ds → IsN ds D → Nums wx ta tl tc ts → Calls Try.prog 11 #[.agg #[.bool tb, .slice ta tl tc], .slice da dl dc] wx fun e w' => FracT f X Y wx e w') := by
        intro wx ds hd hdN ht
        have hm := r8make_any tb _ _ _ _ _ _ ts ds wx ht hd
        obtain ⟨k1, k2, k3⟩ := make_isW HTs.out hdN
        rw [k1, k2, k3, ← HX.out.1, ← HX.out.2.1, ← HX.out.2.2] at hm
        exact hm
      clear hYV hbc hBc hb6 c2 e2 hDN
      go_wp2_with fail
      refine (HMk.out _ ds hDn HDN.out hTn).mono ?_
      rintro e w7 ⟨zb, za, zl, zc, za', zl', zc', zs, zs', err, rfl, ⟨hZ, hZ'⟩, hTold, hb7⟩
      have HTd : Hid (ToldF f X Y zb zs zs' err) := hTold
      have hB7 := bthen hB6 hb7
      replace hR := hR.below hb7
      have k1 := Nums.put3 hR hZ (.bool zb) (.slice za zl zc) (.slice za' zl' zc')
      have k2 := Nums.put3 hR hZ' (.bool zb) (.slice za zl zc) (.slice za' zl' zc')
      have hBB := put3_below hB7 (g := G + 1 + 1) (by rw [HG.out]; omega) (.bool zb) (.slice za zl zc) (.slice za' zl' zc')
      obtain ⟨r0, r1, r2, f0, f1, f2⟩ := hR
      clear HMk HDN HTs hTn hDn hTold hb7 hB6 hB7 hZ hZ' d0 d1 HX HG
      go_wp2_with fail
      exact bodyPost_ret (v := .tuple #[.agg #[.bool zb, .slice za zl zc, .slice za' zl' zc'], .int .i64 err]) (by simp [results, Try.results21, go_sem, r0, r1, r2]) rfl ⟨zb, za, zl, zc, za', zl', zc', zs, zs', err, rfl, ⟨k1, k2⟩, HTd.out, hBB⟩

end Go.Proofs.Ytfeapegdaffckaa

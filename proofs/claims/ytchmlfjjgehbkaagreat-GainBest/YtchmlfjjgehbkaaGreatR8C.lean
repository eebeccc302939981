/-
  The contract of the document's over.
  What is told of two fractions' sum, difference and product; contracts of the document's Add and Mul.
  The contract of the document's Cmp of fractions.
  The contract of the document's Floor of a fraction.
  The contract of the document's Sub of fractions.
  Fractions: order turns nothing, what is added and subtracted is gone, the order is the difference's sign.
  What stage 8's laws ask of the program's functions; the contracts of few and awake.
-/
import Derived.Test.YtchmlfjjgehbkaaGreatR8P
import Derived.Test.YtchmlfjjgehbkaaGreatModR
import Derived.Deep.RegionWith
import Derived.Deep.RegionHeld3
import Derived.BigRegion
import Derived.Test.YtchmlfjjgehbkaaGreatRefA
import Derived.Test.YtchmlfjjgehbkaaGreatNatA
import Derived.Laws.NewBlocks
namespace Go.Proofs.YtchmlfjjgehbkaaGreat
open Go.RowKit

set_option maxRecDepth 20000 in
set_option maxHeartbeats 20000000 in
theorem r8over_any (n m : Bool) (a b c d : Option Addr) (la ca lb cb lc cc ld cd : Nat) (xs vs : List Int) (x : Int) (v : Nat) (w : World) (h1 : Nums w a la ca xs) (h4 : Nums w d ld cd vs) (hx : IsW n xs x) (hv : IsN vs v) (hb64 : ((x * (v : Int)).natAbs : Int) < 18446744073709551616 ^ 64) :
    Calls Tryz.prog 47 #[.agg #[.bool n, .slice a la ca, .slice b lb cb], .agg #[.bool m, .slice c lc cc, .slice d ld cd]] w fun e w' => TellsW (x * (v : Int)) w e w' := by
  obtain ⟨X, hX⟩ : ∃ X, X = x * (v : Int) := ⟨_, rfl⟩
  rw [← hX] at hb64 ⊢
  have HX : Hid (X = x * (v : Int) ∧ (X.natAbs : Int) < 18446744073709551616 ^ 64) := ⟨hX, hb64⟩
  clear hX hb64
  obtain ⟨V, hVe⟩ : ∃ V, V = ((w.alloc (.cells #[.bool n, .slice a la ca, .slice b lb cb] 30)).alloc (.cells #[.bool m, .slice c lc cc, .slice d ld cd] 30)).alloc (.cells #[.bool false, .slice none 0 0] 28) := ⟨_, rfl⟩
  have hv1 := balloc w (.cells #[.bool n, .slice a la ca, .slice b lb cb] 30)
  have hv2 := balloc (w.alloc (.cells #[.bool n, .slice a la ca, .slice b lb cb] 30)) (.cells #[.bool m, .slice c lc cc, .slice d ld cd] 30)
  have hv3 := balloc ((w.alloc (.cells #[.bool n, .slice a la ca, .slice b lb cb] 30)).alloc (.cells #[.bool m, .slice c lc cc, .slice d ld cd] 30)) (.cells #[.bool false, .slice none 0 0] 28)
  have hV := bthen (bthen hv1 hv2) hv3
  have hA := (Cell3.new w n a b la ca lb cb).below (bthen hv2 hv3)
  have hB := (Cell3.new (w.alloc (.cells #[.bool n, .slice a la ca, .slice b lb cb] 30)) m c d lc cc ld cd).below hv3
  have hR := Cell2.new ((w.alloc (.cells #[.bool n, .slice a la ca, .slice b lb cb] 30)).alloc (.cells #[.bool m, .slice c lc cc, .slice d ld cd] 30)) false none 0 0
  simp only [World.size_alloc] at hB hR
  rw [← hVe] at hV hA hB hR
  have HVe : Hid (V = ((w.alloc (.cells #[.bool n, .slice a la ca, .slice b lb cb] 30)).alloc (.cells #[.bool m, .slice c lc cc, .slice d ld cd] 30)).alloc (.cells #[.bool false, .slice none 0 0] 28)) := hVe
  replace h1 := h1.below hV
  replace h4 := h4.below hV
  clear hv1 hv2 hv3 hVe
  go_enter Tryz.func47, Tryz.ntmps47
  go_wp2_with fail
  rw [← HVe.out]
  obtain ⟨G, hG⟩ : ∃ G, G = w.heap.size := ⟨_, rfl⟩
  rw [← hG] at hA hB hR
  rw [← hG]
  have HG : Hid (G = w.heap.size) := hG
  obtain ⟨c0, c1, -, -, -, -⟩ := hA
  have e2 := hB.c2
  have hGV : G + 1 < V.heap.size := hB.lt
  clear hB HVe hG
  have HRB : Hid (Below V.heap.size V V) := Below.refl _ _
  have HFr : Hid (∀ wx : World, Below V.heap.size V wx → Calls Tryz.prog 55 #[.bool false, .slice d ld cd] wx fun e w' => ∃ yb ya yl yc, e = .returned (.agg #[.bool yb, .slice ya yl yc]) ∧ Hid (WAt w' yb ya yl yc (v : Int) ∧ Below V.heap.size V w') ∧ (w'.cell? ⟨G, 0, none⟩ = some (.bool n) ∧ w'.cell? ⟨G, 1, none⟩ = some (.slice a la ca) ∧ w'.cell? ⟨G + 1, 2, none⟩ = some (.slice d ld cd) ∧ G + 1 < w'.heap.size) ∧ (∀ b o, b < wx.heap.size → w'.cell? ⟨b, o, none⟩ = wx.cell? ⟨b, o, none⟩) ∧ (∀ b o, b < wx.heap.size → w'.frozen? ⟨b, o, none⟩ = wx.frozen? ⟨b, o, none⟩) ∧ (∀ b, b < wx.heap.size → b < w'.heap.size)) := by
    intro wx hbx
    refine (refFrom_any false _ _ _ _ wx (h4.below hbx)).mono ?_
    rintro e w' ⟨a', n', c', rfl, hn, hb⟩
    have hb' := bthen hbx hb
    have hw := IsW.from hv false
    simp only [Bool.false_eq_true, if_false] at hw
    exact ⟨_, _, _, _, rfl, ⟨⟨_, hn, hw⟩, hb'⟩, ⟨bkeep hb' c0 rfl, bkeep hb' c1 rfl, bkeep hb' e2 rfl, Nat.lt_of_lt_of_le hGV hb'.size⟩, bfactsD hb⟩
  have HMu : Hid (∀ (wx : World) yb ya yl yc, WAt wx yb ya yl yc (v : Int) → Below V.heap.size V wx → Calls Tryz.prog 44 #[.agg #[.bool n, .slice a la ca], .agg #[.bool yb, .slice ya yl yc]] wx fun e w' => ∃ mp ma mn mc, e = .returned (.tuple #[.agg #[.bool mp, .slice ma mn mc], .int .i64 0]) ∧ Hid (WAt w' mp ma mn mc X ∧ Below V.heap.size V w') ∧ (w'.cell? ⟨G, 0, none⟩ = some (.bool n) ∧ w'.cell? ⟨G, 1, none⟩ = some (.slice a la ca) ∧ w'.cell? ⟨G + 1, 2, none⟩ = some (.slice d ld cd) ∧ G + 1 < w'.heap.size) ∧ (∀ b o, b < wx.heap.size → w'.cell? ⟨b, o, none⟩ = wx.cell? ⟨b, o, none⟩) ∧ (∀ b o, b < wx.heap.size → w'.frozen? ⟨b, o, none⟩ = wx.frozen? ⟨b, o, none⟩) ∧ (∀ b, b < wx.heap.size → b < w'.heap.size)) := by
    rintro wx yb ya yl yc ⟨ys, hy, hyW⟩ hbx
    refine (refIMul_any n yb _ _ _ _ _ _ _ _ wx (h1.below hbx) hy).mono ?_
    rintro e w' ⟨q, a', n', c', ls, err, rfl, hn, hRes, hb⟩
    have hb' := bthen hbx hb
    have := hRes.got hx.2.1 hyW.2.1
    rw [hx.2.2, hyW.2.2, ← HX.out.1] at this
    obtain ⟨h3, rfl⟩ := IsW.res this HX.out.2
    exact ⟨_, _, _, _, rfl, ⟨⟨_, hn, h3⟩, hb'⟩, ⟨bkeep hb' c0 rfl, bkeep hb' c1 rfl, bkeep hb' e2 rfl, Nat.lt_of_lt_of_le hGV hb'.size⟩, bfactsD hb⟩
  go_cut [5] (fun pv wx => ∃ g5, pv = .pointer (some ⟨g5, 0, none⟩) ∧ Fac wx g5 X ∧ Below V.heap.size V wx)
  case first =>
    clear HX hV hR h1 h4 hx hv HG
    have ne0 := World.new_ne V ⟨G, 0, none⟩ c0
    have ne1 := World.new_ne V ⟨G + 1, 2, none⟩ e2
    go_region_held3 (fun w' => w'.cell? ⟨G, 0, none⟩ = some (.bool n) ∧ w'.cell? ⟨G, 1, none⟩ = some (.slice a la ca) ∧ w'.cell? ⟨G + 1, 2, none⟩ = some (.slice d ld cd)) (first | go_keep | exact ⟨o0, o1, o2⟩ | exact ⟨n0, n1, n2⟩ | exact ⟨(put2_other (by omega) _ _).trans o0, (put2_other (by omega) _ _).trans o1, (put2_other (by omega) _ _).trans o2⟩)
      (first
      | (go_at_call 55; with_reducible refine Calls.mono (HFr.out _ ?_) ?_; (focus (repeat (first | exact HRB.out | refine bdrawD ?_ | refine bgrowD ?_ _))); rintro e w3 ⟨yb, ya, yl, yc, rfl, hA, ⟨n0, n1, n2, n3⟩, hc3, hf3, hs3⟩; have ne3 := World.new_ne w3 ⟨G, 0, none⟩ n0; have ne4 := World.new_ne w3 ⟨G + 1, 2, none⟩ n2; (try have k30 := hs3 (V.heap.size) (by first | omega | (simp; done) | (simp; omega))); (try have m300 := hc3 (V.heap.size) 0 (by first | omega | (simp; done) | (simp; omega))); (try have f300 := hf3 (V.heap.size) 0 (by first | omega | (simp; done) | (simp; omega))); (try have m301 := hc3 (V.heap.size) 1 (by first | omega | (simp; done) | (simp; omega))); (try have f301 := hf3 (V.heap.size) 1 (by first | omega | (simp; done) | (simp; omega))); clear hc3 hf3 hs3)
      | (go_at_call 44; with_reducible refine Calls.mono (HMu.out _ yb ya yl yc ?_ ?_) ?_; (focus (repeat (first | exact hA.out.1 | refine WAt.drew ?_ | refine WAt.grow ?_ _))); (focus (repeat (first | exact hA.out.2 | refine bdrawD ?_ | refine bgrowD ?_ _))); rintro e w6 ⟨mp, ma, mn, mc, rfl, hM, ⟨o0, o1, o2, o3⟩, hc6, hf6, hs6⟩; have ne6 := World.new_ne w6 ⟨G, 0, none⟩ o0; have ne7 := World.new_ne w6 ⟨G + 1, 2, none⟩ o2; (try have k60 := hs6 (V.heap.size) (by first | omega | (simp; done) | (simp; omega))); (try have m600 := hc6 (V.heap.size) 0 (by first | omega | (simp; done) | (simp; omega))); (try have f600 := hf6 (V.heap.size) 0 (by first | omega | (simp; done) | (simp; omega))); (try have m601 := hc6 (V.heap.size) 1 (by first | omega | (simp; done) | (simp; omega))); (try have f601 := hf6 (V.heap.size) 1 (by first | omega | (simp; done) | (simp; omega))); (try have k61 := hs6 (w3.heap.size) (by first | omega | (simp; done) | (simp; omega))); (try have m610 := hc6 (w3.heap.size) 0 (by first | omega | (simp; done) | (simp; omega))); (try have f610 := hf6 (w3.heap.size) 0 (by first | omega | (simp; done) | (simp; omega))); (try have m611 := hc6 (w3.heap.size) 1 (by first | omega | (simp; done) | (simp; omega))); (try have f611 := hf6 (w3.heap.size) 1 (by first | omega | (simp; done) | (simp; omega))); clear hc6 hf6 hs6))
    all_goals
      have hz6 := hM.out.2.size
      have hz3 := hA.out.2.size
      clear HFr HMu HRB
      go_wp2_with fail
      go_meet
      case rel =>
        obtain ⟨⟨ms, hMs, hMW⟩, hbM⟩ := hM.out
        first
          | exact ⟨_, rfl, fac_alloc hMs hMW.2.1 hMW.2.2, bgrowD hbM _⟩
          | (refine ⟨_, rfl, fac_put (q := false) (sa := none) (sn := 0) (sc := 0) ?_ ?_ ?_ ?_ hMs hMW.2.1 hMW.2.2, (hbM.setCell ?_ _).setCell ?_ _⟩
             · go_simp
             · go_simp
             · go_simp
             · go_simp
             · first | (simp; done) | (simp; omega)
             · first | (simp; done) | (simp; omega))
  case rest =>
    obtain ⟨g5, rfl, F5, hbc⟩ := hcut
    have hB5 := bthen hV hbc
    obtain ⟨d0, d1, f0, f1⟩ := hR.below hbc
    clear HFr HMu HRB HX c0 c1 e2 h1 h4 hx hv hbc hV hR hGV
    obtain ⟨zp, za, zn, zc, zs, ⟨e0, e1⟩, -, hZn, hZr, hZv⟩ := F5
    have HZ : Hid (IsW zp zs X) := ⟨hZn.digs, hZr, hZv⟩
    have hn2 := hZn.put2 d0 d1 (.bool zp) (.slice za zn zc)
    have hBB := put2_below7 hB5 (g := G + 1 + 1) (by rw [HG.out]; omega) (.bool zp) (.slice za zn zc)
    clear hZn hZr hZv hB5 HG
    go_wp2_with fail
    exact bodyPost_ret (v := .agg #[.bool zp, .slice za zn zc]) (by simp [results, Tryz.results47, go_sem, d0, d1]) rfl ⟨zp, za, zn, zc, zs, rfl, hn2, HZ.out, hBB⟩
end Go.Proofs.YtchmlfjjgehbkaaGreat

namespace Go.Proofs.YtchmlfjjgehbkaaGreat
open Go.RowKit

/-- What is told of a reckoning with two fractions: a fault, or none. -/
def arF (n : Bool) (xs ys : List Int) (m : Bool) (us vs : List Int) (T : Int) (D : Nat) : Option Int := if rightF n xs ys && rightF m us vs then makF T D else some 1
def addT (n : Bool) (xs ys : List Int) (m : Bool) (us vs : List Int) : Int := iv n xs * (nv vs : Int) + iv m us * (nv ys : Int)
def subT (n : Bool) (xs ys : List Int) (m : Bool) (us vs : List Int) : Int := iv n xs * (nv vs : Int) - iv m us * (nv ys : Int)
def mulT (n : Bool) (xs : List Int) (m : Bool) (us : List Int) : Int := iv n xs * iv m us
theorem make_isW {n : Bool} {xs ys : List Int} {X : Int} {Y : Nat} (hW : IsW n xs X) (hN : IsN ys Y) : makeFF n xs ys = makF X Y ∧ numF (iv n xs) (nv ys) = numF X Y ∧ denF (iv n xs) (nv ys) = denF X Y := by
  have e1 := hW.2.2
  have e2 := hN.nv
  refine ⟨?_, by rw [e1, e2], by rw [e1, e2]⟩
  unfold makeFF
  rw [hW.2.1, hN.2.1, e1, e2]
  rfl
theorem den_16 {y v : Nat} (hy : ((y : Nat) : Int) < 18446744073709551616 ^ 16) (hv : ((v : Nat) : Int) < 18446744073709551616 ^ 16) : ((y * v : Nat) : Int) < 18446744073709551616 ^ 64 := by
  have h := prod_16 (x := (y : Int)) (v := v) (by simpa using hy) hv
  have e : (((y : Int) * (v : Int)).natAbs : Int) = ((y * v : Nat) : Int) := by
    rw [← Int.natCast_mul, Int.natAbs_natCast]
  rw [e] at h
  have h2 : (18446744073709551616 : Int) ^ 32 < 18446744073709551616 ^ 64 := by decide
  omega

set_option maxRecDepth 20000 in
set_option maxHeartbeats 20000000 in
theorem r8add_any (n m : Bool) (a b c d : Option Addr) (la ca lb cb lc cc ld cd : Nat) (xs ys us vs : List Int) (w : World) (h1 : Nums w a la ca xs) (h2 : Nums w b lb cb ys) (h3 : Nums w c lc cc us) (h4 : Nums w d ld cd vs) :
    Calls Tryz.prog 20 #[.agg #[.bool n, .slice a la ca, .slice b lb cb], .agg #[.bool m, .slice c lc cc, .slice d ld cd]] w fun e w' => FracT (arF n xs ys m us vs (addT n xs ys m us vs) (nv ys * nv vs)) (numF (addT n xs ys m us vs) (nv ys * nv vs)) (denF (addT n xs ys m us vs) (nv ys * nv vs)) w e w' := by
  obtain ⟨T, hT⟩ : ∃ T, T = addT n xs ys m us vs := ⟨_, rfl⟩
  rw [← hT]
  obtain ⟨D, hD⟩ : ∃ D, D = nv ys * nv vs := ⟨_, rfl⟩
  rw [← hD]
  obtain ⟨f, hf⟩ : ∃ f, f = arF n xs ys m us vs T D := ⟨_, rfl⟩
  obtain ⟨X, hX⟩ : ∃ X, X = numF T D := ⟨_, rfl⟩
  obtain ⟨Y, hY⟩ : ∃ Y, Y = denF T D := ⟨_, rfl⟩
  rw [← hf, ← hX, ← hY]
  have HX : Hid (f = arF n xs ys m us vs T D ∧ (X = numF T D ∧ Y = denF T D) ∧ T = addT n xs ys m us vs ∧ D = nv ys * nv vs) := ⟨hf, ⟨hX, hY⟩, hT, hD⟩
  clear hf hX hY hT hD
  obtain ⟨V, hVe⟩ : ∃ V, V = (((w.alloc (.cells #[.bool n, .slice a la ca, .slice b lb cb] 30)).alloc (.cells #[.bool m, .slice c lc cc, .slice d ld cd] 30)).alloc (.cells #[.bool false, .slice none 0 0, .slice none 0 0] 30)) := ⟨_, rfl⟩
  have hv1 := balloc w (.cells #[.bool n, .slice a la ca, .slice b lb cb] 30)
  have hv2 := balloc (w.alloc (.cells #[.bool n, .slice a la ca, .slice b lb cb] 30)) (.cells #[.bool m, .slice c lc cc, .slice d ld cd] 30)
  have hv3 := balloc ((w.alloc (.cells #[.bool n, .slice a la ca, .slice b lb cb] 30)).alloc (.cells #[.bool m, .slice c lc cc, .slice d ld cd] 30)) (.cells #[.bool false, .slice none 0 0, .slice none 0 0] 30)
  have hV := bthen (bthen hv1 hv2) hv3
  have hA := (Cell3.new w n a b la ca lb cb).below (bthen hv2 hv3)
  have hB := (Cell3.new (w.alloc (.cells #[.bool n, .slice a la ca, .slice b lb cb] 30)) m c d lc cc ld cd).below (hv3)
  have hR := (Cell3.new ((w.alloc (.cells #[.bool n, .slice a la ca, .slice b lb cb] 30)).alloc (.cells #[.bool m, .slice c lc cc, .slice d ld cd] 30)) false none none 0 0 0 0)
  simp only [World.size_alloc] at hB hR
  rw [← hVe] at hV hA hB hR
  have HVe : Hid (V = (((w.alloc (.cells #[.bool n, .slice a la ca, .slice b lb cb] 30)).alloc (.cells #[.bool m, .slice c lc cc, .slice d ld cd] 30)).alloc (.cells #[.bool false, .slice none 0 0, .slice none 0 0] 30))) := hVe
  replace h1 := h1.below hV
  replace h2 := h2.below hV
  replace h3 := h3.below hV
  replace h4 := h4.below hV
  clear hv1 hv2 hv3 hVe
  go_enter Tryz.func20, Tryz.ntmps20
  go_wp2_with fail
  rw [← HVe.out]
  obtain ⟨G, hG⟩ : ∃ G, G = w.heap.size := ⟨_, rfl⟩
  rw [← hG] at hA hB hR
  rw [← hG]
  have HG : Hid (G = w.heap.size) := hG
  obtain ⟨c0, c1, c2, -, -, -⟩ := hA
  have hGV : G + 1 < V.heap.size := hB.lt
  obtain ⟨e0, e1, e2, -, -, -⟩ := hB
  clear HVe hG
  refine (r8right_any n _ _ _ _ _ _ _ _ _ h1 h2).mono ?_
  rintro e w1 ⟨rfl, hb1⟩
  have hB1 := bthen hV hb1
  replace h1 := h1.below hb1
  replace h2 := h2.below hb1
  replace h3 := h3.below hb1
  replace h4 := h4.below hb1
  replace c0 := bkeep hb1 c0 rfl
  replace c1 := bkeep hb1 c1 rfl
  replace c2 := bkeep hb1 c2 rfl
  replace e0 := bkeep hb1 e0 rfl
  replace e1 := bkeep hb1 e1 rfl
  replace e2 := bkeep hb1 e2 rfl
  replace hGV := Nat.lt_of_lt_of_le hGV hb1.size
  replace hR := hR.below hb1
  clear hb1 hV
  go_wp2_with fail
  refine (r8right_any m _ _ _ _ _ _ _ _ _ h3 h4).mono ?_
  rintro e w2 ⟨rfl, hb2⟩
  have hB2 := bthen hB1 hb2
  replace h1 := h1.below hb2
  replace h2 := h2.below hb2
  replace h3 := h3.below hb2
  replace h4 := h4.below hb2
  replace c0 := bkeep hb2 c0 rfl
  replace c1 := bkeep hb2 c1 rfl
  replace c2 := bkeep hb2 c2 rfl
  replace e0 := bkeep hb2 e0 rfl
  replace e1 := bkeep hb2 e1 rfl
  replace e2 := bkeep hb2 e2 rfl
  replace hGV := Nat.lt_of_lt_of_le hGV hb2.size
  replace hR := hR.below hb2
  clear hb2 hB1
  cases hr1 : rightF n xs ys with
  | false =>
    have HF : Hid (ToldF f X Y false [] [] 1) := ToldF.bad (by rw [HX.out.1]; unfold arF; rw [hr1]; rfl)
    have hBB := put3_below hB2 (g := G + 1 + 1) (by rw [HG.out]; omega) (.bool false) (.slice none 0 0) (.slice none 0 0)
    obtain ⟨r0, r1, r2, f0, f1, f2⟩ := hR
    clear h1 h2 h3 h4 HX c0 c1 c2 e0 e1 e2 hGV hB2 HG
    go_wp2_with fail
    exact bodyPost_ret (v := .tuple #[.agg #[.bool false, .slice none 0 0, .slice none 0 0], .int .i64 1]) (by simp [results, Tryz.results20, go_sem, r0, r1, r2]) rfl ⟨false, none, 0, 0, none, 0, 0, [], [], 1, rfl, ⟨Nums.nil _, Nums.nil _⟩, HF.out, hBB⟩
  | true =>
  cases hr2 : rightF m us vs with
  | false =>
    have HF : Hid (ToldF f X Y false [] [] 1) := ToldF.bad (by rw [HX.out.1]; unfold arF; rw [hr2, Bool.and_false]; rfl)
    have hBB := put3_below hB2 (g := G + 1 + 1) (by rw [HG.out]; omega) (.bool false) (.slice none 0 0) (.slice none 0 0)
    obtain ⟨r0, r1, r2, f0, f1, f2⟩ := hR
    clear h1 h2 h3 h4 HX c0 c1 c2 e0 e1 e2 hGV hB2 HG
    go_wp2_with fail
    exact bodyPost_ret (v := .tuple #[.agg #[.bool false, .slice none 0 0, .slice none 0 0], .int .i64 1]) (by simp [results, Tryz.results20, go_sem, r0, r1, r2]) rfl ⟨false, none, 0, 0, none, 0, 0, [], [], 1, rfl, ⟨Nums.nil _, Nums.nil _⟩, HF.out, hBB⟩
  | true =>
    obtain ⟨hxW, hyN, hy0, hg1, hx16, hy16⟩ := rightF_parts h1.digs h2.digs hr1
    obtain ⟨huW, hvN, hv0, hg2, hu16, hv16⟩ := rightF_parts h3.digs h4.digs hr2
    obtain ⟨x, hxe⟩ : ∃ x, x = iv n xs := ⟨_, rfl⟩
    obtain ⟨y, hye⟩ : ∃ y, y = nv ys := ⟨_, rfl⟩
    obtain ⟨u, hue⟩ : ∃ u, u = iv m us := ⟨_, rfl⟩
    obtain ⟨v, hve⟩ : ∃ v, v = nv vs := ⟨_, rfl⟩
    rw [← hxe] at hxW hg1 hx16
    rw [← hye] at hyN hy0 hg1 hy16
    rw [← hue] at huW hg2 hu16
    rw [← hve] at hvN hv0 hg2 hv16
    obtain ⟨P, hP⟩ : ∃ P, P = x * (v : Int) := ⟨_, rfl⟩
    obtain ⟨Q, hQ⟩ : ∃ Q, Q = u * (y : Int) := ⟨_, rfl⟩
    have p1 := prod_16 hx16 hv16
    have p2 := prod_16 hu16 hy16
    have p3 : (18446744073709551616 : Int) ^ 32 + 18446744073709551616 ^ 32 < 18446744073709551616 ^ 64 := by decide
    have HPQ : Hid (((x * (v : Int)).natAbs : Int) < 18446744073709551616 ^ 64 ∧ ((u * (y : Int)).natAbs : Int) < 18446744073709551616 ^ 64 ∧ P = x * (v : Int) ∧ Q = u * (y : Int)) := ⟨by omega, by omega, hP, hQ⟩
    have HT : Hid (T = P + Q ∧ ((P + Q).natAbs : Int) < 18446744073709551616 ^ 64) := ⟨by rw [HX.out.2.2.1, hP, hQ, hxe, hye, hue, hve]; rfl, by rw [← hP] at p1; rw [← hQ] at p2; omega⟩
    have hD : D = y * v := by rw [HX.out.2.2.2, hye, hve]
    have HD : Hid (D = y * v ∧ ((D : Nat) : Int) < 18446744073709551616 ^ 64) := ⟨hD, by rw [hD]; exact den_16 hy16 hv16⟩
    clear hD
    replace HX : Hid (f = makF T D ∧ X = numF T D ∧ Y = denF T D) := ⟨by rw [HX.out.1]; unfold arF; rw [hr1, hr2]; rfl, HX.out.2.1.1, HX.out.2.1.2⟩
    obtain ⟨W, hW⟩ : ∃ W, W = w2 := ⟨_, rfl⟩
    subst hW
    clear p1 p2 p3 hP hQ hxe hye hue hve hg1 hg2 hx16 hy16 hu16 hv16 hy0 hv0
    have HRB : Hid (Below W.heap.size W W) := Below.refl _ _
    have HO1 : Hid (∀ wx : World, Below W.heap.size W wx → Calls Tryz.prog 47 #[.agg #[.bool n, .slice a la ca, .slice b lb cb], .agg #[.bool m, .slice c lc cc, .slice d ld cd]] wx fun e w' => ∃ pb pa pl pc, e = .returned (.agg #[.bool pb, .slice pa pl pc]) ∧ Hid (WAt w' pb pa pl pc P ∧ Below W.heap.size W w') ∧ (w'.cell? ⟨G, 0, none⟩ = some (.bool n) ∧ w'.cell? ⟨G, 1, none⟩ = some (.slice a la ca) ∧ w'.cell? ⟨G, 2, none⟩ = some (.slice b lb cb) ∧ w'.cell? ⟨G + 1, 0, none⟩ = some (.bool m) ∧ w'.cell? ⟨G + 1, 1, none⟩ = some (.slice c lc cc) ∧ w'.cell? ⟨G + 1, 2, none⟩ = some (.slice d ld cd)) ∧ G + 1 < w'.heap.size ∧ (∀ b o, b < wx.heap.size → w'.cell? ⟨b, o, none⟩ = wx.cell? ⟨b, o, none⟩) ∧ (∀ b o, b < wx.heap.size → w'.frozen? ⟨b, o, none⟩ = wx.frozen? ⟨b, o, none⟩) ∧ (∀ b, b < wx.heap.size → b < w'.heap.size)) := by
      intro wx hbx
      refine (r8over_any n m _ _ _ _ _ _ _ _ _ _ _ _ xs vs x v wx (h1.below hbx) (h4.below hbx) hxW hvN (by have := HPQ.out.1; omega)).mono ?_
      rintro e w' ⟨pb, pa, pl, pc, ps, rfl, hn, hw, hb⟩
      have hb' := bthen hbx hb
      rw [← HPQ.out.2.2.1] at hw
      exact ⟨_, _, _, _, rfl, ⟨⟨_, hn, hw⟩, hb'⟩, ⟨bkeep hb' c0 rfl, bkeep hb' c1 rfl, bkeep hb' c2 rfl, bkeep hb' e0 rfl, bkeep hb' e1 rfl, bkeep hb' e2 rfl⟩, Nat.lt_of_lt_of_le hGV hb'.size, bfactsD hb⟩
    have HO2 : Hid (∀ wx : World, Below W.heap.size W wx → Calls Tryz.prog 47 #[.agg #[.bool m, .slice c lc cc, .slice d ld cd], .agg #[.bool n, .slice a la ca, .slice b lb cb]] wx fun e w' => ∃ qb qa ql qc, e = .returned (.agg #[.bool qb, .slice qa ql qc]) ∧ Hid (WAt w' qb qa ql qc Q ∧ Below W.heap.size W w' ∧ ∀ n a l c, WAt wx n a l c P → WAt w' n a l c P) ∧ (w'.cell? ⟨G, 0, none⟩ = some (.bool n) ∧ w'.cell? ⟨G, 1, none⟩ = some (.slice a la ca) ∧ w'.cell? ⟨G, 2, none⟩ = some (.slice b lb cb) ∧ w'.cell? ⟨G + 1, 0, none⟩ = some (.bool m) ∧ w'.cell? ⟨G + 1, 1, none⟩ = some (.slice c lc cc) ∧ w'.cell? ⟨G + 1, 2, none⟩ = some (.slice d ld cd)) ∧ G + 1 < w'.heap.size ∧ (∀ b o, b < wx.heap.size → w'.cell? ⟨b, o, none⟩ = wx.cell? ⟨b, o, none⟩) ∧ (∀ b o, b < wx.heap.size → w'.frozen? ⟨b, o, none⟩ = wx.frozen? ⟨b, o, none⟩) ∧ (∀ b, b < wx.heap.size → b < w'.heap.size)) := by
      intro wx hbx
      refine (r8over_any m n _ _ _ _ _ _ _ _ _ _ _ _ us ys u y wx (h3.below hbx) (h2.below hbx) huW hyN (by have := HPQ.out.2.1; omega)).mono ?_
      rintro e w' ⟨pb, pa, pl, pc, ps, rfl, hn, hw, hb⟩
      have hb' := bthen hbx hb
      rw [← HPQ.out.2.2.2] at hw
      exact ⟨_, _, _, _, rfl, ⟨⟨_, hn, hw⟩, hb', fun _ _ _ _ hk => hk.below hb⟩, ⟨bkeep hb' c0 rfl, bkeep hb' c1 rfl, bkeep hb' c2 rfl, bkeep hb' e0 rfl, bkeep hb' e1 rfl, bkeep hb' e2 rfl⟩, Nat.lt_of_lt_of_le hGV hb'.size, bfactsD hb⟩

    have HAd : Hid (∀ (wx : World) pb pa pl pc qb qa ql qc, WAt wx pb pa pl pc P → WAt wx qb qa ql qc Q → Below W.heap.size W wx → Calls Tryz.prog 46 #[.agg #[.bool pb, .slice pa pl pc], .agg #[.bool qb, .slice qa ql qc]] wx fun e w' => ∃ mp ma mn mc, e = .returned (.tuple #[.agg #[.bool mp, .slice ma mn mc], .int .i64 0]) ∧ Hid (WAt w' mp ma mn mc T ∧ Below W.heap.size W w') ∧ (w'.cell? ⟨G, 0, none⟩ = some (.bool n) ∧ w'.cell? ⟨G, 1, none⟩ = some (.slice a la ca) ∧ w'.cell? ⟨G, 2, none⟩ = some (.slice b lb cb) ∧ w'.cell? ⟨G + 1, 0, none⟩ = some (.bool m) ∧ w'.cell? ⟨G + 1, 1, none⟩ = some (.slice c lc cc) ∧ w'.cell? ⟨G + 1, 2, none⟩ = some (.slice d ld cd)) ∧ G + 1 < w'.heap.size ∧ (∀ b o, b < wx.heap.size → w'.cell? ⟨b, o, none⟩ = wx.cell? ⟨b, o, none⟩) ∧ (∀ b o, b < wx.heap.size → w'.frozen? ⟨b, o, none⟩ = wx.frozen? ⟨b, o, none⟩) ∧ (∀ b, b < wx.heap.size → b < w'.heap.size)) := by
      rintro wx pb pa pl pc qb qa ql qc ⟨ps, hp, hpW⟩ ⟨qs, hq, hqW⟩ hbx
      refine (refIAdd_any pb qb _ _ _ _ _ _ _ _ wx hp hq).mono ?_
      rintro e w' ⟨z, a', n', c', ls, err, rfl, hn, hRes, hb⟩
      have hb' := bthen hbx hb
      have := hRes.got hpW.2.1 hqW.2.1
      rw [hpW.2.2, hqW.2.2] at this
      obtain ⟨h3, rfl⟩ := IsW.res this HT.out.2
      rw [← HT.out.1] at h3
      exact ⟨_, _, _, _, rfl, ⟨⟨_, hn, h3⟩, hb'⟩, ⟨bkeep hb' c0 rfl, bkeep hb' c1 rfl, bkeep hb' c2 rfl, bkeep hb' e0 rfl, bkeep hb' e1 rfl, bkeep hb' e2 rfl⟩, Nat.lt_of_lt_of_le hGV hb'.size, bfactsD hb⟩
    have hYV : Hid (∀ wx, Below W.heap.size W wx → Calls Tryz.prog 48 #[.slice b lb cb, .slice d ld cd] wx fun e w' => ∃ da dl dc ds err, e = .returned (.tuple #[.slice da dl dc, .int .i64 err]) ∧ Nums w' da dl dc ds ∧ IsN ds D ∧ Below wx.heap.size wx w') := by
      intro wx hbx
      refine (refMul_any _ _ _ _ _ _ _ _ wx (h2.below hbx) (h4.below hbx)).mono ?_
      rintro e w' ⟨da, dl, dc, ds, err, rfl, hn, hRes, hb⟩
      have h3 := hRes.got hyN.2.1 hvN.2.1
      rw [hyN.2.2, hvN.2.2, ← Int.natCast_mul, ← HD.out.1] at h3
      exact ⟨da, dl, dc, ds, err, rfl, hn, (IsN.res h3 HD.out.2).1, hb⟩
    clear HPQ HT HD hxW hyN huW hvN h1 h2 h3 h4
    go_wp2_with fail
    go_cut [8] from 23 to 32 (fun pv wx => ∃ g8, pv = .pointer (some ⟨g8, 0, none⟩) ∧ Fac wx g8 T ∧ Below W.heap.size W wx)
    case first =>
      clear HX hYV hB2 hR HG
      have ne0 := World.new_ne W ⟨G, 0, none⟩ c0
      have ne1 := World.new_ne W ⟨G + 1, 0, none⟩ e0
      go_region_held3 (fun w' => (w'.cell? ⟨G, 0, none⟩ = some (.bool n) ∧ w'.cell? ⟨G, 1, none⟩ = some (.slice a la ca) ∧ w'.cell? ⟨G, 2, none⟩ = some (.slice b lb cb) ∧ w'.cell? ⟨G + 1, 0, none⟩ = some (.bool m) ∧ w'.cell? ⟨G + 1, 1, none⟩ = some (.slice c lc cc) ∧ w'.cell? ⟨G + 1, 2, none⟩ = some (.slice d ld cd))) (first | go_keep | exact n6 | exact o6 | exact q6 | exact ⟨(put2_other (by omega) _ _).trans o6.1, (put2_other (by omega) _ _).trans o6.2.1, (put2_other (by omega) _ _).trans o6.2.2.1, (put2_other (by omega) _ _).trans o6.2.2.2.1, (put2_other (by omega) _ _).trans o6.2.2.2.2.1, (put2_other (by omega) _ _).trans o6.2.2.2.2.2⟩)
        (first
        | (go_at_call 47; with_reducible refine Calls.mono (HO1.out _ ?_) ?_; (focus (repeat (first | exact HRB.out | refine bdrawD ?_ | refine bgrowD ?_ _))); rintro e w3 ⟨pb, pa, pl, pc, rfl, hA, n6, n7, hc3, hf3, hs3⟩; have ne3 := World.new_ne w3 ⟨G, 0, none⟩ n6.1; have ne4 := World.new_ne w3 ⟨G + 1, 0, none⟩ n6.2.2.2.1; (try have k30 := hs3 (W.heap.size) (by first | omega | (simp; done) | (simp; omega))); (try have m300 := hc3 (W.heap.size) 0 (by first | omega | (simp; done) | (simp; omega))); (try have f300 := hf3 (W.heap.size) 0 (by first | omega | (simp; done) | (simp; omega))); (try have m301 := hc3 (W.heap.size) 1 (by first | omega | (simp; done) | (simp; omega))); (try have f301 := hf3 (W.heap.size) 1 (by first | omega | (simp; done) | (simp; omega))); clear hc3 hf3 hs3)
        | (go_at_call 47; with_reducible refine Calls.mono (HO2.out _ ?_) ?_; (focus (repeat (first | exact hA.out.2 | refine bdrawD ?_ | refine bgrowD ?_ _))); rintro e w4 ⟨qb, qa, ql, qc, rfl, hB, q6, q7, hc4, hf4, hs4⟩; have ne5 := World.new_ne w4 ⟨G, 0, none⟩ q6.1; have ne6 := World.new_ne w4 ⟨G + 1, 0, none⟩ q6.2.2.2.1; have hA4 := hB.out.2.2 pb pa pl pc (by (focus (repeat (first | exact hA.out.1 | refine WAt.drew ?_ | refine WAt.grow ?_ _)))); (try have k40 := hs4 (W.heap.size) (by first | omega | (simp; done) | (simp; omega))); (try have m400 := hc4 (W.heap.size) 0 (by first | omega | (simp; done) | (simp; omega))); (try have f400 := hf4 (W.heap.size) 0 (by first | omega | (simp; done) | (simp; omega))); (try have m401 := hc4 (W.heap.size) 1 (by first | omega | (simp; done) | (simp; omega))); (try have f401 := hf4 (W.heap.size) 1 (by first | omega | (simp; done) | (simp; omega))); (try have k41 := hs4 (w3.heap.size) (by first | omega | (simp; done) | (simp; omega))); (try have m410 := hc4 (w3.heap.size) 0 (by first | omega | (simp; done) | (simp; omega))); (try have f410 := hf4 (w3.heap.size) 0 (by first | omega | (simp; done) | (simp; omega))); (try have m411 := hc4 (w3.heap.size) 1 (by first | omega | (simp; done) | (simp; omega))); (try have f411 := hf4 (w3.heap.size) 1 (by first | omega | (simp; done) | (simp; omega))); clear hc4 hf4 hs4)
        | (go_at_call 46; with_reducible refine Calls.mono (HAd.out _ pb pa pl pc qb qa ql qc ?_ ?_ ?_) ?_; (focus (repeat (first | exact hA4 | refine WAt.drew ?_ | refine WAt.grow ?_ _))); (focus (repeat (first | exact hB.out.1 | refine WAt.drew ?_ | refine WAt.grow ?_ _))); (focus (repeat (first | exact hB.out.2.1 | refine bdrawD ?_ | refine bgrowD ?_ _))); rintro e w5 ⟨mp, ma, mn, mc, rfl, hM, o6, o7, hc5, hf5, hs5⟩; have ne7 := World.new_ne w5 ⟨G, 0, none⟩ o6.1; have ne8 := World.new_ne w5 ⟨G + 1, 0, none⟩ o6.2.2.2.1; (try have k50 := hs5 (W.heap.size) (by first | omega | (simp; done) | (simp; omega))); (try have m500 := hc5 (W.heap.size) 0 (by first | omega | (simp; done) | (simp; omega))); (try have f500 := hf5 (W.heap.size) 0 (by first | omega | (simp; done) | (simp; omega))); (try have m501 := hc5 (W.heap.size) 1 (by first | omega | (simp; done) | (simp; omega))); (try have f501 := hf5 (W.heap.size) 1 (by first | omega | (simp; done) | (simp; omega))); (try have k51 := hs5 (w3.heap.size) (by first | omega | (simp; done) | (simp; omega))); (try have m510 := hc5 (w3.heap.size) 0 (by first | omega | (simp; done) | (simp; omega))); (try have f510 := hf5 (w3.heap.size) 0 (by first | omega | (simp; done) | (simp; omega))); (try have m511 := hc5 (w3.heap.size) 1 (by first | omega | (simp; done) | (simp; omega))); (try have f511 := hf5 (w3.heap.size) 1 (by first | omega | (simp; done) | (simp; omega))); (try have k52 := hs5 (w4.heap.size) (by first | omega | (simp; done) | (simp; omega))); (try have m520 := hc5 (w4.heap.size) 0 (by first | omega | (simp; done) | (simp; omega))); (try have f520 := hf5 (w4.heap.size) 0 (by first | omega | (simp; done) | (simp; omega))); (try have m521 := hc5 (w4.heap.size) 1 (by first | omega | (simp; done) | (simp; omega))); (try have f521 := hf5 (w4.heap.size) 1 (by first | omega | (simp; done) | (simp; omega))); clear hc5 hf5 hs5))
      all_goals
        have hz5 := hM.out.2.size
        have hz4 := hB.out.2.1.size
        have hz3 := hA.out.2.size
        clear HO1 HO2 HAd HRB hA4
        go_wp2_with fail
        go_meet
        case rel =>
          obtain ⟨⟨ms, hMs, hMW⟩, hbM⟩ := hM.out
          first
            | exact ⟨_, rfl, fac_alloc hMs hMW.2.1 hMW.2.2, bgrowD hbM _⟩
            | (refine ⟨_, rfl, fac_put (q := false) (sa := none) (sn := 0) (sc := 0) ?_ ?_ ?_ ?_ hMs hMW.2.1 hMW.2.2, (hbM.setCell ?_ _).setCell ?_ _⟩
               · go_simp
               · go_simp
               · go_simp
               · go_simp
               · first | (simp; done) | (simp; omega)
               · first | (simp; done) | (simp; omega))
    case rest =>
      obtain ⟨g8, rfl, F8, hbc⟩ := hcut
      have hBc := bthen hB2 hbc
      replace hR := hR.below hbc
      replace c2 := bkeep hbc c2 rfl
      replace e2 := bkeep hbc e2 rfl
      clear HO1 HO2 HAd HRB c0 c1 e0 e1 hGV hB2
      obtain ⟨tb, ta, tl, tc, ts, ⟨d0, d1⟩, -, hTn, hTr, hTv⟩ := F8
      have HTs : Hid (IsW tb ts T) := ⟨hTn.digs, hTr, hTv⟩
      clear hTr hTv
      go_wp2_with fail
      refine (hYV.out _ hbc).mono ?_
      rintro e w6 ⟨da, dl, dc, ds, err, rfl, hDn, hDN, hb6⟩
      have HDN : Hid (IsN ds D) := hDN
      have hB6 := bthen hBc hb6
      replace hTn := hTn.below hb6
      replace d0 := bkeep hb6 d0 rfl
      replace d1 := bkeep hb6 d1 rfl
      replace hR := hR.below hb6
      have HMk : Hid (∀ wx ds, Nums wx da dl dc ds → IsN ds D → Nums wx ta tl tc ts → Calls Tryz.prog 30 #[.agg #[.bool tb, .slice ta tl tc], .slice da dl dc] wx fun e w' => FracT f X Y wx e w') := by
        intro wx ds hd hdN ht
        have hm := r8make_any tb _ _ _ _ _ _ ts ds wx ht hd
        obtain ⟨k1, k2, k3⟩ := make_isW HTs.out hdN
        rw [k1, k2, k3, ← HX.out.1, ← HX.out.2.1, ← HX.out.2.2] at hm
        exact hm
      clear hYV hbc hBc hb6 c2 e2 hDN
      go_wp2_with fail
      refine (HMk.out _ ds hDn HDN.out hTn).mono ?_
      rintro e w7 ⟨zb, za, zl, zc, za', zl', zc', zs, zs', err, rfl, ⟨hZ, hZ'⟩, hTold, hb7⟩
      have HTd : Hid (ToldF f X Y zb zs zs' err) := hTold
      have hB7 := bthen hB6 hb7
      replace hR := hR.below hb7
      have k1 := Nums.put3 hR hZ (.bool zb) (.slice za zl zc) (.slice za' zl' zc')
      have k2 := Nums.put3 hR hZ' (.bool zb) (.slice za zl zc) (.slice za' zl' zc')
      have hBB := put3_below hB7 (g := G + 1 + 1) (by rw [HG.out]; omega) (.bool zb) (.slice za zl zc) (.slice za' zl' zc')
      obtain ⟨r0, r1, r2, f0, f1, f2⟩ := hR
      clear HMk HDN HTs hTn hDn hTold hb7 hB6 hB7 hZ hZ' d0 d1 HX HG
      go_wp2_with fail
      exact bodyPost_ret (v := .tuple #[.agg #[.bool zb, .slice za zl zc, .slice za' zl' zc'], .int .i64 err]) (by simp [results, Tryz.results20, go_sem, r0, r1, r2]) rfl ⟨zb, za, zl, zc, za', zl', zc', zs, zs', err, rfl, ⟨k1, k2⟩, HTd.out, hBB⟩

end Go.Proofs.YtchmlfjjgehbkaaGreat

namespace Go.Proofs.YtchmlfjjgehbkaaGreat
open Go.RowKit

/-- Which one of two fractions is the greater one. -/
def cmpFF (n : Bool) (xs ys : List Int) (m : Bool) (us vs : List Int) : Int := if rightF n xs ys && rightF m us vs then cmpZ (iv n xs * (nv vs : Int)) (iv m us * (nv ys : Int)) else 0

set_option maxRecDepth 20000 in
set_option maxHeartbeats 20000000 in
theorem r8cmp_any (n m : Bool) (a b c d : Option Addr) (la ca lb cb lc cc ld cd : Nat) (xs ys us vs : List Int) (w : World) (h1 : Nums w a la ca xs) (h2 : Nums w b lb cb ys) (h3 : Nums w c lc cc us) (h4 : Nums w d ld cd vs) :
    Calls Tryz.prog 32 #[.agg #[.bool n, .slice a la ca, .slice b lb cb], .agg #[.bool m, .slice c lc cc, .slice d ld cd]] w fun e w' => e = .returned (.int .i64 (cmpFF n xs ys m us vs)) ∧ Below w.heap.size w w' := by
  obtain ⟨t, ht⟩ : ∃ t, t = cmpFF n xs ys m us vs := ⟨_, rfl⟩
  rw [← ht]
  have HT : Hid (t = cmpFF n xs ys m us vs) := ht
  clear ht
  obtain ⟨V, hVe⟩ : ∃ V, V = ((w.alloc (.cells #[.bool n, .slice a la ca, .slice b lb cb] 30)).alloc (.cells #[.bool m, .slice c lc cc, .slice d ld cd] 30)) := ⟨_, rfl⟩
  have hv1 := balloc w (.cells #[.bool n, .slice a la ca, .slice b lb cb] 30)
  have hv2 := balloc (w.alloc (.cells #[.bool n, .slice a la ca, .slice b lb cb] 30)) (.cells #[.bool m, .slice c lc cc, .slice d ld cd] 30)
  have hV := bthen hv1 hv2
  have hA := (Cell3.new w n a b la ca lb cb).below (hv2)
  have hB := (Cell3.new (w.alloc (.cells #[.bool n, .slice a la ca, .slice b lb cb] 30)) m c d lc cc ld cd)
  simp only [World.size_alloc] at hB
  rw [← hVe] at hV hA hB
  have HVe : Hid (V = ((w.alloc (.cells #[.bool n, .slice a la ca, .slice b lb cb] 30)).alloc (.cells #[.bool m, .slice c lc cc, .slice d ld cd] 30))) := hVe
  replace h1 := h1.below hV
  replace h2 := h2.below hV
  replace h3 := h3.below hV
  replace h4 := h4.below hV
  clear hv1 hv2 hVe
  go_enter Tryz.func32, Tryz.ntmps32
  go_wp2_with fail
  rw [← HVe.out]
  obtain ⟨G, hG⟩ : ∃ G, G = w.heap.size := ⟨_, rfl⟩
  rw [← hG] at hA hB
  rw [← hG]
  have HG : Hid (G = w.heap.size) := hG
  obtain ⟨c0, c1, c2, -, -, -⟩ := hA
  have hGV : G + 1 < V.heap.size := hB.lt
  obtain ⟨e0, e1, e2, -, -, -⟩ := hB
  clear HVe hG
  refine (r8right_any n _ _ _ _ _ _ _ _ _ h1 h2).mono ?_
  rintro e w1 ⟨rfl, hb1⟩
  have hB1 := bthen hV hb1
  replace h1 := h1.below hb1
  replace h2 := h2.below hb1
  replace h3 := h3.below hb1
  replace h4 := h4.below hb1
  replace c0 := bkeep hb1 c0 rfl
  replace c1 := bkeep hb1 c1 rfl
  replace c2 := bkeep hb1 c2 rfl
  replace e0 := bkeep hb1 e0 rfl
  replace e1 := bkeep hb1 e1 rfl
  replace e2 := bkeep hb1 e2 rfl
  replace hGV := Nat.lt_of_lt_of_le hGV hb1.size
  clear hb1 hV
  go_wp2_with fail
  refine (r8right_any m _ _ _ _ _ _ _ _ _ h3 h4).mono ?_
  rintro e w2 ⟨rfl, hb2⟩
  have hB2 := bthen hB1 hb2
  replace h1 := h1.below hb2
  replace h2 := h2.below hb2
  replace h3 := h3.below hb2
  replace h4 := h4.below hb2
  replace c0 := bkeep hb2 c0 rfl
  replace c1 := bkeep hb2 c1 rfl
  replace c2 := bkeep hb2 c2 rfl
  replace e0 := bkeep hb2 e0 rfl
  replace e1 := bkeep hb2 e1 rfl
  replace e2 := bkeep hb2 e2 rfl
  replace hGV := Nat.lt_of_lt_of_le hGV hb2.size
  clear hb2 hB1
  cases hr1 : rightF n xs ys with
  | false =>
    have HE : Hid (t = 0) := by show _ = _; rw [HT.out]; unfold cmpFF; rw [hr1]; rfl
    clear h1 h2 h3 h4 HT
    go_wp2
    go_ret
    exact ⟨ret_int HE.out.symm, hB2⟩
  | true =>
  cases hr2 : rightF m us vs with
  | false =>
    have HE : Hid (t = 0) := by show _ = _; rw [HT.out]; unfold cmpFF; rw [hr2, Bool.and_false]; rfl
    clear h1 h2 h3 h4 HT
    go_wp2
    go_ret
    exact ⟨ret_int HE.out.symm, hB2⟩
  | true =>
    obtain ⟨hxW, hyN, hy0, hg1, hx16, hy16⟩ := rightF_parts h1.digs h2.digs hr1
    obtain ⟨huW, hvN, hv0, hg2, hu16, hv16⟩ := rightF_parts h3.digs h4.digs hr2
    obtain ⟨x, hxe⟩ : ∃ x, x = iv n xs := ⟨_, rfl⟩
    obtain ⟨y, hye⟩ : ∃ y, y = nv ys := ⟨_, rfl⟩
    obtain ⟨u, hue⟩ : ∃ u, u = iv m us := ⟨_, rfl⟩
    obtain ⟨v, hve⟩ : ∃ v, v = nv vs := ⟨_, rfl⟩
    rw [← hxe] at hxW hg1 hx16
    rw [← hye] at hyN hy0 hg1 hy16
    rw [← hue] at huW hg2 hu16
    rw [← hve] at hvN hv0 hg2 hv16
    obtain ⟨P, hP⟩ : ∃ P, P = x * (v : Int) := ⟨_, rfl⟩
    obtain ⟨Q, hQ⟩ : ∃ Q, Q = u * (y : Int) := ⟨_, rfl⟩
    have p1 := prod_16 hx16 hv16
    have p2 := prod_16 hu16 hy16
    have p3 : (18446744073709551616 : Int) ^ 32 + 18446744073709551616 ^ 32 < 18446744073709551616 ^ 64 := by decide
    have HPQ : Hid (((x * (v : Int)).natAbs : Int) < 18446744073709551616 ^ 64 ∧ ((u * (y : Int)).natAbs : Int) < 18446744073709551616 ^ 64 ∧ P = x * (v : Int) ∧ Q = u * (y : Int)) := ⟨by omega, by omega, hP, hQ⟩
    have HE : Hid (t = cmpZ P Q) := by
      show _ = _
      rw [HT.out, hP, hQ]
      unfold cmpFF
      rw [hr1, hr2, hxe, hye, hue, hve]
      rfl
    obtain ⟨W, hW⟩ : ∃ W, W = w2 := ⟨_, rfl⟩
    subst hW
    clear p1 p2 p3 hP hQ hxe hye hue hve hg1 hg2 hx16 hy16 hu16 hv16 hy0 hv0 HT
    have HRB : Hid (Below W.heap.size W W) := Below.refl _ _
    have HO1 : Hid (∀ wx : World, Below W.heap.size W wx → Calls Tryz.prog 47 #[.agg #[.bool n, .slice a la ca, .slice b lb cb], .agg #[.bool m, .slice c lc cc, .slice d ld cd]] wx fun e w' => ∃ pb pa pl pc, e = .returned (.agg #[.bool pb, .slice pa pl pc]) ∧ Hid (WAt w' pb pa pl pc P ∧ Below W.heap.size W w') ∧ (w'.cell? ⟨G, 0, none⟩ = some (.bool n) ∧ w'.cell? ⟨G, 1, none⟩ = some (.slice a la ca) ∧ w'.cell? ⟨G, 2, none⟩ = some (.slice b lb cb) ∧ w'.cell? ⟨G + 1, 0, none⟩ = some (.bool m) ∧ w'.cell? ⟨G + 1, 1, none⟩ = some (.slice c lc cc) ∧ w'.cell? ⟨G + 1, 2, none⟩ = some (.slice d ld cd)) ∧ G + 1 < w'.heap.size ∧ (∀ b o, b < wx.heap.size → w'.cell? ⟨b, o, none⟩ = wx.cell? ⟨b, o, none⟩) ∧ (∀ b o, b < wx.heap.size → w'.frozen? ⟨b, o, none⟩ = wx.frozen? ⟨b, o, none⟩) ∧ (∀ b, b < wx.heap.size → b < w'.heap.size)) := by
      intro wx hbx
      refine (r8over_any n m _ _ _ _ _ _ _ _ _ _ _ _ xs vs x v wx (h1.below hbx) (h4.below hbx) hxW hvN (by have := HPQ.out.1; omega)).mono ?_
      rintro e w' ⟨pb, pa, pl, pc, ps, rfl, hn, hw, hb⟩
      have hb' := bthen hbx hb
      rw [← HPQ.out.2.2.1] at hw
      exact ⟨_, _, _, _, rfl, ⟨⟨_, hn, hw⟩, hb'⟩, ⟨bkeep hb' c0 rfl, bkeep hb' c1 rfl, bkeep hb' c2 rfl, bkeep hb' e0 rfl, bkeep hb' e1 rfl, bkeep hb' e2 rfl⟩, Nat.lt_of_lt_of_le hGV hb'.size, bfactsD hb⟩
    have HO2 : Hid (∀ wx : World, Below W.heap.size W wx → Calls Tryz.prog 47 #[.agg #[.bool m, .slice c lc cc, .slice d ld cd], .agg #[.bool n, .slice a la ca, .slice b lb cb]] wx fun e w' => ∃ qb qa ql qc, e = .returned (.agg #[.bool qb, .slice qa ql qc]) ∧ Hid (WAt w' qb qa ql qc Q ∧ Below W.heap.size W w' ∧ ∀ n a l c, WAt wx n a l c P → WAt w' n a l c P) ∧ (w'.cell? ⟨G, 0, none⟩ = some (.bool n) ∧ w'.cell? ⟨G, 1, none⟩ = some (.slice a la ca) ∧ w'.cell? ⟨G, 2, none⟩ = some (.slice b lb cb) ∧ w'.cell? ⟨G + 1, 0, none⟩ = some (.bool m) ∧ w'.cell? ⟨G + 1, 1, none⟩ = some (.slice c lc cc) ∧ w'.cell? ⟨G + 1, 2, none⟩ = some (.slice d ld cd)) ∧ G + 1 < w'.heap.size ∧ (∀ b o, b < wx.heap.size → w'.cell? ⟨b, o, none⟩ = wx.cell? ⟨b, o, none⟩) ∧ (∀ b o, b < wx.heap.size → w'.frozen? ⟨b, o, none⟩ = wx.frozen? ⟨b, o, none⟩) ∧ (∀ b, b < wx.heap.size → b < w'.heap.size)) := by
      intro wx hbx
      refine (r8over_any m n _ _ _ _ _ _ _ _ _ _ _ _ us ys u y wx (h3.below hbx) (h2.below hbx) huW hyN (by have := HPQ.out.2.1; omega)).mono ?_
      rintro e w' ⟨pb, pa, pl, pc, ps, rfl, hn, hw, hb⟩
      have hb' := bthen hbx hb
      rw [← HPQ.out.2.2.2] at hw
      exact ⟨_, _, _, _, rfl, ⟨⟨_, hn, hw⟩, hb', fun _ _ _ _ hk => hk.below hb⟩, ⟨bkeep hb' c0 rfl, bkeep hb' c1 rfl, bkeep hb' c2 rfl, bkeep hb' e0 rfl, bkeep hb' e1 rfl, bkeep hb' e2 rfl⟩, Nat.lt_of_lt_of_le hGV hb'.size, bfactsD hb⟩

    have HCm : Hid (∀ (wx : World) pb pa pl pc qb qa ql qc, WAt wx pb pa pl pc P → WAt wx qb qa ql qc Q → Below W.heap.size W wx → Calls Tryz.prog 57 #[.agg #[.bool pb, .slice pa pl pc], .agg #[.bool qb, .slice qa ql qc]] wx fun e w' => e = .returned (.int .i64 t) ∧ Hid (Below W.heap.size W w') ∧ (w'.cell? ⟨G, 0, none⟩ = some (.bool n) ∧ w'.cell? ⟨G, 1, none⟩ = some (.slice a la ca) ∧ w'.cell? ⟨G, 2, none⟩ = some (.slice b lb cb) ∧ w'.cell? ⟨G + 1, 0, none⟩ = some (.bool m) ∧ w'.cell? ⟨G + 1, 1, none⟩ = some (.slice c lc cc) ∧ w'.cell? ⟨G + 1, 2, none⟩ = some (.slice d ld cd))) := by
      rintro wx pb pa pl pc qb qa ql qc ⟨ps, hp, hpW⟩ ⟨qs, hq, hqW⟩ hbx
      refine (refICmp_any pb qb _ _ _ _ _ _ _ _ wx hp hq).mono ?_
      rintro e w' ⟨rfl, hb⟩
      have hb' := bthen hbx hb
      exact ⟨by rw [hpW.cmp hqW, HE.out], hb', ⟨bkeep hb' c0 rfl, bkeep hb' c1 rfl, bkeep hb' c2 rfl, bkeep hb' e0 rfl, bkeep hb' e1 rfl, bkeep hb' e2 rfl⟩⟩
    clear HE HPQ h1 h2 h3 h4 hxW hyN huW hvN
    go_wp2_with fail
    go_region_held3 (fun w' => (w'.cell? ⟨G, 0, none⟩ = some (.bool n) ∧ w'.cell? ⟨G, 1, none⟩ = some (.slice a la ca) ∧ w'.cell? ⟨G, 2, none⟩ = some (.slice b lb cb) ∧ w'.cell? ⟨G + 1, 0, none⟩ = some (.bool m) ∧ w'.cell? ⟨G + 1, 1, none⟩ = some (.slice c lc cc) ∧ w'.cell? ⟨G + 1, 2, none⟩ = some (.slice d ld cd))) (first | go_keep | exact n6 | exact o6 | exact q6)
        (first
        | (go_at_call 47; with_reducible refine Calls.mono (HO1.out _ ?_) ?_; (focus (repeat (first | exact HRB.out | refine bdrawD ?_ | refine bgrowD ?_ _))); rintro e w3 ⟨pb, pa, pl, pc, rfl, hA, n6, n7, hc3, hf3, hs3⟩; have ne3 := World.new_ne w3 ⟨G, 0, none⟩ n6.1; have ne4 := World.new_ne w3 ⟨G + 1, 0, none⟩ n6.2.2.2.1; (try have k30 := hs3 (W.heap.size) (by first | omega | (simp; done) | (simp; omega))); (try have m300 := hc3 (W.heap.size) 0 (by first | omega | (simp; done) | (simp; omega))); (try have f300 := hf3 (W.heap.size) 0 (by first | omega | (simp; done) | (simp; omega))); (try have m301 := hc3 (W.heap.size) 1 (by first | omega | (simp; done) | (simp; omega))); (try have f301 := hf3 (W.heap.size) 1 (by first | omega | (simp; done) | (simp; omega))); clear hc3 hf3 hs3)
        | (go_at_call 47; with_reducible refine Calls.mono (HO2.out _ ?_) ?_; (focus (repeat (first | exact hA.out.2 | refine bdrawD ?_ | refine bgrowD ?_ _))); rintro e w4 ⟨qb, qa, ql, qc, rfl, hB, q6, q7, hc4, hf4, hs4⟩; have ne5 := World.new_ne w4 ⟨G, 0, none⟩ q6.1; have ne6 := World.new_ne w4 ⟨G + 1, 0, none⟩ q6.2.2.2.1; have hA4 := hB.out.2.2 pb pa pl pc (by (focus (repeat (first | exact hA.out.1 | refine WAt.drew ?_ | refine WAt.grow ?_ _)))); (try have k40 := hs4 (W.heap.size) (by first | omega | (simp; done) | (simp; omega))); (try have m400 := hc4 (W.heap.size) 0 (by first | omega | (simp; done) | (simp; omega))); (try have f400 := hf4 (W.heap.size) 0 (by first | omega | (simp; done) | (simp; omega))); (try have m401 := hc4 (W.heap.size) 1 (by first | omega | (simp; done) | (simp; omega))); (try have f401 := hf4 (W.heap.size) 1 (by first | omega | (simp; done) | (simp; omega))); (try have k41 := hs4 (w3.heap.size) (by first | omega | (simp; done) | (simp; omega))); (try have m410 := hc4 (w3.heap.size) 0 (by first | omega | (simp; done) | (simp; omega))); (try have f410 := hf4 (w3.heap.size) 0 (by first | omega | (simp; done) | (simp; omega))); (try have m411 := hc4 (w3.heap.size) 1 (by first | omega | (simp; done) | (simp; omega))); (try have f411 := hf4 (w3.heap.size) 1 (by first | omega | (simp; done) | (simp; omega))); clear hc4 hf4 hs4)
        | (go_at_call 57; with_reducible refine Calls.mono (HCm.out _ pb pa pl pc qb qa ql qc ?_ ?_ ?_) ?_; (focus (repeat (first | exact hA4 | refine WAt.drew ?_ | refine WAt.grow ?_ _))); (focus (repeat (first | exact hB.out.1 | refine WAt.drew ?_ | refine WAt.grow ?_ _))); (focus (repeat (first | exact hB.out.2.1 | refine bdrawD ?_ | refine bgrowD ?_ _))); rintro e w5 ⟨rfl, hb5, o6⟩))
    all_goals
      clear HO1 HO2 HCm HRB
      go_wp2_with fail
      go_ret
      exact ⟨rfl, bthen hB2 hb5.out⟩
end Go.Proofs.YtchmlfjjgehbkaaGreat

namespace Go.Proofs.YtchmlfjjgehbkaaGreat
open Go.RowKit

/-- What is told of the greatest whole number not above a fraction: a fault, or none. -/
def flF (n : Bool) (xs ys : List Int) : Option Int := if rightF n xs ys then none else some 1

end Go.Proofs.YtchmlfjjgehbkaaGreat

namespace Go.Proofs.YtchmlfjjgehbkaaGreat
open Go.RowKit

theorem put3_other {w : World} {g g' i : Nat} (h : g' ≠ g) (x y z : Value) : (((w.setCell ⟨g, 0, none⟩ x).setCell ⟨g, 1, none⟩ y).setCell ⟨g, 2, none⟩ z).cell? ⟨g', i, none⟩ = w.cell? ⟨g', i, none⟩ := by
  rw [World.cell?_setCell_other, put2_other h]
  intro e; cases e; exact h rfl
/-- The opposite of a fraction that may be may be. -/
theorem rightF_neg {m : Bool} {us vs : List Int} (hd : Digs 18446744073709551616 us) (h : rightF m us vs = true) : rightF (negN m us) (negL m us) vs = true ∧ iv (negN m us) (negL m us) = -iv m us := by
  obtain ⟨h1, h2, h3, h4, h5, h6⟩ := (rightF_iff m us vs).1 h
  have e1 : negL m us = us := by simp [negL, h1]
  have hp := nv_pos hd ((rightI_iff m us).1 h1).1
  have hz : us.length = 0 → val 18446744073709551616 us = 0 := fun e => by rw [List.eq_nil_of_length_eq_zero e]; rfl
  refine ⟨(rightF_iff _ _ _).2 ⟨?_, h2, h3, h4, by rw [e1]; exact h5, by rw [e1]; exact h6⟩, ?_⟩
  · refine (rightI_iff _ _).2 ⟨by rw [e1]; exact ((rightI_iff m us).1 h1).1, fun e => ?_⟩
    rw [e1]
    unfold negN at e
    simp at e
    omega
  · rw [e1]
    unfold negN iv
    rw [h1]
    by_cases e : us.length = 0
    · have := hz e
      cases m <;> simp [e, this]
    · have : 0 < us.length := by omega
      cases m <;> simp [this]
theorem sub_add {n : Bool} {xs ys : List Int} {m : Bool} {us vs : List Int} (hd : Digs 18446744073709551616 us) (h : rightF m us vs = true) : arF n xs ys (negN m us) (negL m us) vs (addT n xs ys (negN m us) (negL m us) vs) (nv ys * nv vs) = arF n xs ys m us vs (subT n xs ys m us vs) (nv ys * nv vs) ∧ addT n xs ys (negN m us) (negL m us) vs = subT n xs ys m us vs := by
  obtain ⟨h1, h2⟩ := rightF_neg hd h
  have e : addT n xs ys (negN m us) (negL m us) vs = subT n xs ys m us vs := by
    unfold addT subT
    rw [h2, Int.neg_mul]
    omega
  refine ⟨?_, e⟩
  rw [e]
  unfold arF
  rw [h1, h]

theorem keep6 {w : World} {G g : Nat} {p0 p1 p2 p3 p4 p5 : Option Value} (h0 : G ≠ g) (h1 : G + 1 ≠ g) (x y z : Value)
    (h : w.cell? ⟨G, 0, none⟩ = p0 ∧ w.cell? ⟨G, 1, none⟩ = p1 ∧ w.cell? ⟨G, 2, none⟩ = p2 ∧ w.cell? ⟨G + 1, 0, none⟩ = p3 ∧ w.cell? ⟨G + 1, 1, none⟩ = p4 ∧ w.cell? ⟨G + 1, 2, none⟩ = p5) :
    (((w.setCell ⟨g, 0, none⟩ x).setCell ⟨g, 1, none⟩ y).setCell ⟨g, 2, none⟩ z).cell? ⟨G, 0, none⟩ = p0 ∧ (((w.setCell ⟨g, 0, none⟩ x).setCell ⟨g, 1, none⟩ y).setCell ⟨g, 2, none⟩ z).cell? ⟨G, 1, none⟩ = p1 ∧ (((w.setCell ⟨g, 0, none⟩ x).setCell ⟨g, 1, none⟩ y).setCell ⟨g, 2, none⟩ z).cell? ⟨G, 2, none⟩ = p2 ∧ (((w.setCell ⟨g, 0, none⟩ x).setCell ⟨g, 1, none⟩ y).setCell ⟨g, 2, none⟩ z).cell? ⟨G + 1, 0, none⟩ = p3 ∧ (((w.setCell ⟨g, 0, none⟩ x).setCell ⟨g, 1, none⟩ y).setCell ⟨g, 2, none⟩ z).cell? ⟨G + 1, 1, none⟩ = p4 ∧ (((w.setCell ⟨g, 0, none⟩ x).setCell ⟨g, 1, none⟩ y).setCell ⟨g, 2, none⟩ z).cell? ⟨G + 1, 2, none⟩ = p5 :=
  ⟨(put3_other h0 x y z).trans h.1, (put3_other h0 x y z).trans h.2.1, (put3_other h0 x y z).trans h.2.2.1, (put3_other h1 x y z).trans h.2.2.2.1, (put3_other h1 x y z).trans h.2.2.2.2.1, (put3_other h1 x y z).trans h.2.2.2.2.2⟩

set_option maxRecDepth 20000 in
set_option maxHeartbeats 20000000 in
theorem r8sub_any (n m : Bool) (a b c d : Option Addr) (la ca lb cb lc cc ld cd : Nat) (xs ys us vs : List Int) (w : World) (h1 : Nums w a la ca xs) (h2 : Nums w b lb cb ys) (h3 : Nums w c lc cc us) (h4 : Nums w d ld cd vs) :
    Calls Tryz.prog 21 #[.agg #[.bool n, .slice a la ca, .slice b lb cb], .agg #[.bool m, .slice c lc cc, .slice d ld cd]] w fun e w' => FracT (arF n xs ys m us vs (subT n xs ys m us vs) (nv ys * nv vs)) (numF (subT n xs ys m us vs) (nv ys * nv vs)) (denF (subT n xs ys m us vs) (nv ys * nv vs)) w e w' := by
  obtain ⟨T, hT⟩ : ∃ T, T = subT n xs ys m us vs := ⟨_, rfl⟩
  rw [← hT]
  obtain ⟨D, hD⟩ : ∃ D, D = nv ys * nv vs := ⟨_, rfl⟩
  rw [← hD]
  obtain ⟨f, hf⟩ : ∃ f, f = arF n xs ys m us vs T D := ⟨_, rfl⟩
  obtain ⟨X, hX⟩ : ∃ X, X = numF T D := ⟨_, rfl⟩
  obtain ⟨Y, hY⟩ : ∃ Y, Y = denF T D := ⟨_, rfl⟩
  rw [← hf, ← hX, ← hY]
  have HX : Hid (f = arF n xs ys m us vs T D ∧ (X = numF T D ∧ Y = denF T D) ∧ T = subT n xs ys m us vs ∧ D = nv ys * nv vs) := ⟨hf, ⟨hX, hY⟩, hT, hD⟩
  clear hf hX hY hT hD
  obtain ⟨V, hVe⟩ : ∃ V, V = (((w.alloc (.cells #[.bool n, .slice a la ca, .slice b lb cb] 30)).alloc (.cells #[.bool m, .slice c lc cc, .slice d ld cd] 30)).alloc (.cells #[.bool false, .slice none 0 0, .slice none 0 0] 30)) := ⟨_, rfl⟩
  have hv1 := balloc w (.cells #[.bool n, .slice a la ca, .slice b lb cb] 30)
  have hv2 := balloc (w.alloc (.cells #[.bool n, .slice a la ca, .slice b lb cb] 30)) (.cells #[.bool m, .slice c lc cc, .slice d ld cd] 30)
  have hv3 := balloc ((w.alloc (.cells #[.bool n, .slice a la ca, .slice b lb cb] 30)).alloc (.cells #[.bool m, .slice c lc cc, .slice d ld cd] 30)) (.cells #[.bool false, .slice none 0 0, .slice none 0 0] 30)
  have hV := bthen (bthen hv1 hv2) hv3
  have hA := (Cell3.new w n a b la ca lb cb).below (bthen hv2 hv3)
  have hB := (Cell3.new (w.alloc (.cells #[.bool n, .slice a la ca, .slice b lb cb] 30)) m c d lc cc ld cd).below (hv3)
  have hR := (Cell3.new ((w.alloc (.cells #[.bool n, .slice a la ca, .slice b lb cb] 30)).alloc (.cells #[.bool m, .slice c lc cc, .slice d ld cd] 30)) false none none 0 0 0 0)
  simp only [World.size_alloc] at hB hR
  rw [← hVe] at hV hA hB hR
  have HVe : Hid (V = (((w.alloc (.cells #[.bool n, .slice a la ca, .slice b lb cb] 30)).alloc (.cells #[.bool m, .slice c lc cc, .slice d ld cd] 30)).alloc (.cells #[.bool false, .slice none 0 0, .slice none 0 0] 30))) := hVe
  replace h1 := h1.below hV
  replace h2 := h2.below hV
  replace h3 := h3.below hV
  replace h4 := h4.below hV
  clear hv1 hv2 hv3 hVe
  go_enter Tryz.func21, Tryz.ntmps21
  go_wp2_with fail
  rw [← HVe.out]
  obtain ⟨G, hG⟩ : ∃ G, G = w.heap.size := ⟨_, rfl⟩
  rw [← hG] at hA hB hR
  rw [← hG]
  have HG : Hid (G = w.heap.size) := hG
  obtain ⟨c0, c1, c2, -, -, -⟩ := hA
  have hGV : G + 1 < V.heap.size := hB.lt
  obtain ⟨e0, e1, e2, -, -, -⟩ := hB
  clear HVe hG
  refine (r8right_any n _ _ _ _ _ _ _ _ _ h1 h2).mono ?_
  rintro e w1 ⟨rfl, hb1⟩
  have hB1 := bthen hV hb1
  replace h1 := h1.below hb1
  replace h2 := h2.below hb1
  replace h3 := h3.below hb1
  replace h4 := h4.below hb1
  replace c0 := bkeep hb1 c0 rfl
  replace c1 := bkeep hb1 c1 rfl
  replace c2 := bkeep hb1 c2 rfl
  replace e0 := bkeep hb1 e0 rfl
  replace e1 := bkeep hb1 e1 rfl
  replace e2 := bkeep hb1 e2 rfl
  replace hGV := Nat.lt_of_lt_of_le hGV hb1.size
  replace hR := hR.below hb1
  clear hb1 hV
  go_wp2_with fail
  refine (r8right_any m _ _ _ _ _ _ _ _ _ h3 h4).mono ?_
  rintro e w2 ⟨rfl, hb2⟩
  have hB2 := bthen hB1 hb2
  replace h1 := h1.below hb2
  replace h2 := h2.below hb2
  replace h3 := h3.below hb2
  replace h4 := h4.below hb2
  replace c0 := bkeep hb2 c0 rfl
  replace c1 := bkeep hb2 c1 rfl
  replace c2 := bkeep hb2 c2 rfl
  replace e0 := bkeep hb2 e0 rfl
  replace e1 := bkeep hb2 e1 rfl
  replace e2 := bkeep hb2 e2 rfl
  replace hGV := Nat.lt_of_lt_of_le hGV hb2.size
  replace hR := hR.below hb2
  clear hb2 hB1
  cases hr1 : rightF n xs ys with
  | false =>
    have HF : Hid (ToldF f X Y false [] [] 1) := ToldF.bad (by rw [HX.out.1]; unfold arF; rw [hr1]; rfl)
    have hBB := put3_below hB2 (g := G + 1 + 1) (by rw [HG.out]; omega) (.bool false) (.slice none 0 0) (.slice none 0 0)
    obtain ⟨r0, r1, r2, f0, f1, f2⟩ := hR
    clear h1 h2 h3 h4 HX c0 c1 c2 e0 e1 e2 hGV hB2 HG
    go_wp2_with fail
    exact bodyPost_ret (v := .tuple #[.agg #[.bool false, .slice none 0 0, .slice none 0 0], .int .i64 1]) (by simp [results, Tryz.results21, go_sem, r0, r1, r2]) rfl ⟨false, none, 0, 0, none, 0, 0, [], [], 1, rfl, ⟨Nums.nil _, Nums.nil _⟩, HF.out, hBB⟩
  | true =>
  cases hr2 : rightF m us vs with
  | false =>
    have HF : Hid (ToldF f X Y false [] [] 1) := ToldF.bad (by rw [HX.out.1]; unfold arF; rw [hr2, Bool.and_false]; rfl)
    have hBB := put3_below hB2 (g := G + 1 + 1) (by rw [HG.out]; omega) (.bool false) (.slice none 0 0) (.slice none 0 0)
    obtain ⟨r0, r1, r2, f0, f1, f2⟩ := hR
    clear h1 h2 h3 h4 HX c0 c1 c2 e0 e1 e2 hGV hB2 HG
    go_wp2_with fail
    exact bodyPost_ret (v := .tuple #[.agg #[.bool false, .slice none 0 0, .slice none 0 0], .int .i64 1]) (by simp [results, Tryz.results21, go_sem, r0, r1, r2]) rfl ⟨false, none, 0, 0, none, 0, 0, [], [], 1, rfl, ⟨Nums.nil _, Nums.nil _⟩, HF.out, hBB⟩
  | true =>
    obtain ⟨k1, k2⟩ := sub_add (n := n) (xs := xs) (ys := ys) h3.digs hr2
    replace HX : Hid (arF n xs ys (negN m us) (negL m us) vs (addT n xs ys (negN m us) (negL m us) vs) (nv ys * nv vs) = f ∧ numF (addT n xs ys (negN m us) (negL m us) vs) (nv ys * nv vs) = X ∧ denF (addT n xs ys (negN m us) (negL m us) vs) (nv ys * nv vs) = Y) := by
      obtain ⟨e1, ⟨e2, e3⟩, e4, e5⟩ := HX.out
      show _ ∧ _ ∧ _
      rw [k1, k2, e1, e2, e3, e4, e5]
      exact ⟨rfl, rfl, rfl⟩
    obtain ⟨W, hW⟩ : ∃ W, W = w2 := ⟨_, rfl⟩
    subst hW
    have HRB : Hid (Below W.heap.size W W) := Below.refl _ _
    have HNe : Hid (∀ wx : World, Below W.heap.size W wx → Calls Tryz.prog 49 #[.agg #[.bool m, .slice c lc cc]] wx fun e w' => ∃ nb na nl nc, e = .returned (.agg #[.bool nb, .slice na nl nc]) ∧ Hid (nb = negN m us ∧ Nums w' na nl nc (negL m us) ∧ Below W.heap.size W w') ∧ (w'.cell? ⟨G, 0, none⟩ = some (.bool n) ∧ w'.cell? ⟨G, 1, none⟩ = some (.slice a la ca) ∧ w'.cell? ⟨G, 2, none⟩ = some (.slice b lb cb) ∧ w'.cell? ⟨G + 1, 0, none⟩ = some (.bool m) ∧ w'.cell? ⟨G + 1, 1, none⟩ = some (.slice c lc cc) ∧ w'.cell? ⟨G + 1, 2, none⟩ = some (.slice d ld cd))) := by
      intro wx hbx
      refine (refINeg_any m _ _ _ _ wx (h3.below hbx)).mono ?_
      rintro e w' ⟨na, nl, nc, rfl, hn, hb⟩
      have hb' := bthen hbx hb
      exact ⟨_, _, _, _, rfl, ⟨rfl, hn, hb'⟩, ⟨bkeep hb' c0 rfl, bkeep hb' c1 rfl, bkeep hb' c2 rfl, bkeep hb' e0 rfl, bkeep hb' e1 rfl, bkeep hb' e2 rfl⟩⟩
    have HAd : Hid (∀ (wx : World) nb na nl nc, (nb = negN m us ∧ Nums wx na nl nc (negL m us) ∧ Below W.heap.size W wx) → Calls Tryz.prog 20 #[.agg #[.bool n, .slice a la ca, .slice b lb cb], .agg #[.bool nb, .slice na nl nc, .slice d ld cd]] wx fun e w' => ∃ zb za zl zc za' zl' zc' err, e = .returned (.tuple #[.agg #[.bool zb, .slice za zl zc, .slice za' zl' zc'], .int .i64 err]) ∧ Hid (∃ zs zs', Nums w' za zl zc zs ∧ Nums w' za' zl' zc' zs' ∧ ToldF f X Y zb zs zs' err ∧ Below W.heap.size W w') ∧ Cell3 w' (G + 1 + 1) false none 0 0 none 0 0 ∧ (w'.cell? ⟨G, 0, none⟩ = some (.bool n) ∧ w'.cell? ⟨G, 1, none⟩ = some (.slice a la ca) ∧ w'.cell? ⟨G, 2, none⟩ = some (.slice b lb cb) ∧ w'.cell? ⟨G + 1, 0, none⟩ = some (.bool m) ∧ w'.cell? ⟨G + 1, 1, none⟩ = some (.slice c lc cc) ∧ w'.cell? ⟨G + 1, 2, none⟩ = some (.slice d ld cd))) := by
      rintro wx nb na nl nc ⟨rfl, hn, hbx⟩
      have hadd := r8add_any n (negN m us) _ _ _ _ _ _ _ _ _ _ _ _ xs ys (negL m us) vs wx (h1.below hbx) (h2.below hbx) hn (h4.below hbx)
      rw [HX.out.1, HX.out.2.1, HX.out.2.2] at hadd
      refine hadd.mono ?_
      rintro e w' ⟨zb, za, zl, zc, za', zl', zc', zs, zs', err, rfl, ⟨hZ, hZ'⟩, hTold, hb⟩
      have hb' := bthen hbx hb
      exact ⟨zb, za, zl, zc, za', zl', zc', err, rfl, ⟨zs, zs', hZ, hZ', hTold, hb'⟩, hR.below hb', ⟨bkeep hb' c0 rfl, bkeep hb' c1 rfl, bkeep hb' c2 rfl, bkeep hb' e0 rfl, bkeep hb' e1 rfl, bkeep hb' e2 rfl⟩⟩
    clear HX hR h1 h2 h3 h4 k1 k2
    go_wp2_with fail
    go_region_held3 (fun w' => (w'.cell? ⟨G, 0, none⟩ = some (.bool n) ∧ w'.cell? ⟨G, 1, none⟩ = some (.slice a la ca) ∧ w'.cell? ⟨G, 2, none⟩ = some (.slice b lb cb) ∧ w'.cell? ⟨G + 1, 0, none⟩ = some (.bool m) ∧ w'.cell? ⟨G + 1, 1, none⟩ = some (.slice c lc cc) ∧ w'.cell? ⟨G + 1, 2, none⟩ = some (.slice d ld cd))) (first | exact n6 | exact o6 | exact keep6 (by omega) (by omega) _ _ _ o6 | go_keep)
        (first
        | (go_at_call 49; with_reducible refine Calls.mono (HNe.out _ ?_) ?_; (focus (repeat (first | exact HRB.out | refine bdrawD ?_ | refine bgrowD ?_ _))); rintro e w3 ⟨nb, na, nl, nc, rfl, hA, n6⟩)
        | (go_at_call 20; with_reducible refine Calls.mono (HAd.out _ nb na nl nc ?_) ?_; (exact hA.out); rintro e w4 ⟨zb, za, zl, zc, za', zl', zc', err, rfl, hZ, ⟨r0, r1, r2, f0, f1, f2⟩, o6⟩))
    all_goals
      clear HNe HAd HRB hA
      go_wp2_with fail
      obtain ⟨zs, zs', hZ1, hZ2, hTold, hb4⟩ := hZ.out
      have hRc : Cell3 w4 (G + 1 + 1) false none 0 0 none 0 0 := ⟨r0, r1, r2, f0, f1, f2⟩
      have k1 := Nums.put3 hRc hZ1 (.bool zb) (.slice za zl zc) (.slice za' zl' zc')
      have k2 := Nums.put3 hRc hZ2 (.bool zb) (.slice za zl zc) (.slice za' zl' zc')
      have hBB := put3_below (bthen hB2 hb4) (g := G + 1 + 1) (by rw [HG.out]; omega) (.bool zb) (.slice za zl zc) (.slice za' zl' zc')
      exact bodyPost_ret (v := .tuple #[.agg #[.bool zb, .slice za zl zc, .slice za' zl' zc'], .int .i64 err]) (by simp [results, Tryz.results21, go_sem, r0, r1, r2]) rfl ⟨zb, za, zl, zc, za', zl', zc', zs, zs', err, rfl, ⟨k1, k2⟩, hTold, hBB⟩

end Go.Proofs.YtchmlfjjgehbkaaGreat

namespace Go.Proofs.YtchmlfjjgehbkaaGreat
open Go.RowKit

theorem ar_comm (n : Bool) (xs ys : List Int) (m : Bool) (us vs : List Int) (T : Int) (D : Nat) : arF m us vs n xs ys T D = arF n xs ys m us vs T D := by unfold arF; rw [Bool.and_comm]
theorem addT_comm (n : Bool) (xs ys : List Int) (m : Bool) (us vs : List Int) : addT m us vs n xs ys = addT n xs ys m us vs := by unfold addT; rw [Int.add_comm]
theorem mulT_comm (n : Bool) (xs : List Int) (m : Bool) (us : List Int) : mulT m us n xs = mulT n xs m us := by unfold mulT; rw [Int.mul_comm]
theorem makF_ne {T : Int} {D : Nat} {e : Int} (h : makF T D = some e) : e ≠ 0 := by
  unfold makF at h
  split at h
  · cases h; decide
  · split at h
    · cases h
    · cases h; decide
theorem arF_ne {n : Bool} {xs ys : List Int} {m : Bool} {us vs : List Int} {T : Int} {D : Nat} {e : Int} (h : arF n xs ys m us vs T D = some e) : e ≠ 0 := by
  unfold arF at h
  split at h
  · exact makF_ne h
  · cases h; decide
theorem makF_none {T : Int} {D : Nat} (h : makF T D = none) : 0 < D ∧ (numF T D).natAbs < 18446744073709551616 ^ 16 ∧ denF T D < 18446744073709551616 ^ 16 := by
  unfold makF at h
  split at h
  · cases h
  · split at h
    · rename_i h1 h2; exact ⟨by omega, h2⟩
    · cases h
theorem makF_some {T : Int} {D : Nat} (hD : 0 < D) (h1 : (numF T D).natAbs < 18446744073709551616 ^ 16) (h2 : denF T D < 18446744073709551616 ^ 16) : makF T D = none := by
  unfold makF
  rw [if_neg (by omega), if_pos ⟨h1, h2⟩]
/-- What is told without a fault. -/
theorem told_ok8 {n : Bool} {xs ys : List Int} {m : Bool} {us vs : List Int} {T : Int} {D : Nat} {X : Int} {Y : Nat} {q : Bool} {ss rs : List Int} (h : ToldF (arF n xs ys m us vs T D) X Y q ss rs 0) : rightF n xs ys = true ∧ rightF m us vs = true ∧ makF T D = none ∧ IsW q ss X ∧ IsN rs Y := by
  rcases h with ⟨e, hf, _, h0⟩ | ⟨hf, ⟨h1, h2⟩, _⟩
  · exact absurd h0.symm (arF_ne hf)
  · unfold arF at hf
    cases hr : rightF n xs ys with
    | false => rw [hr] at hf; cases hf
    | true =>
      cases hr' : rightF m us vs with
      | false => rw [hr', Bool.and_false] at hf; cases hf
      | true => rw [hr, hr'] at hf; exact ⟨rfl, rfl, hf, h1, h2⟩
theorem right_of8 {n : Bool} {xs ys : List Int} {X : Int} {Y : Nat} (hW : IsW n xs X) (hN : IsN ys Y) (hx : X.natAbs < 18446744073709551616 ^ 16) (hy : Y < 18446744073709551616 ^ 16) (h0 : 0 < Y) (hg : Nat.gcd X.natAbs Y = 1) : rightF n xs ys = true := by
  have hm := hW.mag
  refine (rightF_iff n xs ys).2 ⟨hW.2.1, hN.2.1, hN.pos h0, (len_16 hN).2 hy, (len_16 hm).2 hx, ?_⟩
  rw [hm.nv, hN.nv]
  exact hg
theorem pow16c : ((18446744073709551616 ^ 16 : Nat) : Int) = 18446744073709551616 ^ 16 := by decide

/-- The sum less b is a. -/
theorem back_sub {x u : Int} {y v : Nat} (hy : 0 < y) (hv : 0 < v) (hg : Nat.gcd x.natAbs y = 1) :
    numF (numF (x * (v : Int) + u * (y : Int)) (y * v) * (v : Int) - u * (denF (x * (v : Int) + u * (y : Int)) (y * v) : Int)) (denF (x * (v : Int) + u * (y : Int)) (y * v) * v) = x ∧
      denF (numF (x * (v : Int) + u * (y : Int)) (y * v) * (v : Int) - u * (denF (x * (v : Int) + u * (y : Int)) (y * v) : Int)) (denF (x * (v : Int) + u * (y : Int)) (y * v) * v) = y := by
  have hD : 0 < y * v := Nat.mul_pos hy hv
  obtain ⟨T, hT⟩ : ∃ T, T = x * (v : Int) + u * (y : Int) := ⟨_, rfl⟩
  rw [← hT]
  have h1 := gF_num T (y * v)
  have h2 := gF_den T (y * v)
  have hYp := den_pos (x := T) hD
  obtain ⟨X, hX⟩ : ∃ X, X = numF T (y * v) := ⟨_, rfl⟩
  obtain ⟨Y, hY⟩ : ∃ Y, Y = denF T (y * v) := ⟨_, rfl⟩
  obtain ⟨g, hgg⟩ : ∃ g, g = gF T (y * v) := ⟨_, rfl⟩
  have hgp := gF_pos (x := T) hD
  rw [← hX, ← hgg] at h1
  rw [← hY, ← hgg] at h2
  rw [← hY] at hYp
  rw [← hgg] at hgp
  rw [← hX, ← hY]
  refine low_of (Nat.mul_pos hYp hv) hy hg ?_
  -- (X v - u Y) y = x (Y v), times g: (T v - u (y v)) y = x (y v) v
  refine Int.eq_of_mul_eq_mul_right (a := (g : Int)) (by omega) ?_
  have h2' : (Y : Int) * (g : Int) = (y : Int) * (v : Int) := by rw [← Int.natCast_mul, h2, Int.natCast_mul]
  have e1 : (X * (v : Int) - u * (Y : Int)) * (y : Int) * (g : Int) = (X * (g : Int) * (v : Int) - u * ((Y : Int) * (g : Int))) * (y : Int) := by
    rw [Int.sub_mul, Int.sub_mul, Int.sub_mul]
    congr 1
    · simp only [Int.mul_assoc, Int.mul_comm, Int.mul_left_comm]
    · simp only [Int.mul_assoc, Int.mul_comm, Int.mul_left_comm]
  have e2 : x * ((Y * v : Nat) : Int) * (g : Int) = x * ((Y : Int) * (g : Int)) * (v : Int) := by
    rw [Int.natCast_mul]
    simp only [Int.mul_assoc, Int.mul_comm, Int.mul_left_comm]
  rw [e1, e2, h1, h2', hT, Int.add_mul, Int.sub_mul, Int.add_mul]
  simp only [Int.mul_assoc, Int.mul_comm, Int.mul_left_comm]
  omega

theorem cmp_sign {P Q X : Int} (h1 : X < 0 ↔ P - Q < 0) (h2 : X = 0 ↔ P - Q = 0) : cmpZ P Q = if X = 0 then 0 else if X < 0 then -1 else 1 := by
  unfold cmpZ
  by_cases a : P < Q
  · have h3 : X < 0 := h1.2 (by omega)
    have h4 : ¬ X = 0 := by omega
    rw [if_pos a, if_neg h4, if_pos h3]
  · rw [if_neg a]
    by_cases b : Q < P
    · have h3 : ¬ X < 0 := fun k => by have := h1.1 k; omega
      have h4 : ¬ X = 0 := fun k => by have := h2.1 k; omega
      rw [if_pos b, if_neg h4, if_neg h3]
    · have h4 : X = 0 := h2.2 (by omega)
      rw [if_neg b, if_pos h4]
theorem IsW.empty {n : Bool} {xs : List Int} {X : Int} (h : IsW n xs X) : xs.length = 0 ↔ X = 0 := by
  have hm := h.mag
  have := nv_pos hm.1 hm.2.1
  rw [hm.nv] at this
  omega
end Go.Proofs.YtchmlfjjgehbkaaGreat

namespace Go.Proofs.YtchmlfjjgehbkaaGreat
open Go.RowKit

/-- The program's answers on fractions. -/
def MakOk8 : Prop := ∀ (n : Bool) (a b : Option Addr) (la ca lb cb : Nat) (xs ys : List Int) (w : World), Nums w a la ca xs → Nums w b lb cb ys → Calls Tryz.prog 43 #[.agg #[.bool n, .slice a la ca], .slice b lb cb] w fun e w' => FracT (makeFF n xs ys) (numF (iv n xs) (nv ys)) (denF (iv n xs) (nv ys)) w e w'
def RgtOk8 : Prop := ∀ (n : Bool) (a b : Option Addr) (la ca lb cb : Nat) (xs ys : List Int) (w : World), Nums w a la ca xs → Nums w b lb cb ys → Calls Tryz.prog 36 #[.agg #[.bool n, .slice a la ca, .slice b lb cb]] w fun e w' => e = .returned (.bool (rightF n xs ys)) ∧ Below w.heap.size w w'
def CmpOk8 : Prop := ∀ (n m : Bool) (a b c d : Option Addr) (la ca lb cb lc cc ld cd : Nat) (xs ys us vs : List Int) (w : World), Nums w a la ca xs → Nums w b lb cb ys → Nums w c lc cc us → Nums w d ld cd vs → Calls Tryz.prog 28 #[.agg #[.bool n, .slice a la ca, .slice b lb cb], .agg #[.bool m, .slice c lc cc, .slice d ld cd]] w fun e w' => e = .returned (.int .i64 (cmpFF n xs ys m us vs)) ∧ Below w.heap.size w w'
def AddOk8 : Prop := ∀ (n m : Bool) (a b c d : Option Addr) (la ca lb cb lc cc ld cd : Nat) (xs ys us vs : List Int) (w : World), Nums w a la ca xs → Nums w b lb cb ys → Nums w c lc cc us → Nums w d ld cd vs → Calls Tryz.prog 40 #[.agg #[.bool n, .slice a la ca, .slice b lb cb], .agg #[.bool m, .slice c lc cc, .slice d ld cd]] w fun e w' => FracT (arF n xs ys m us vs (addT n xs ys m us vs) (nv ys * nv vs)) (numF (addT n xs ys m us vs) (nv ys * nv vs)) (denF (addT n xs ys m us vs) (nv ys * nv vs)) w e w'
def SubOk8 : Prop := ∀ (n m : Bool) (a b c d : Option Addr) (la ca lb cb lc cc ld cd : Nat) (xs ys us vs : List Int) (w : World), Nums w a la ca xs → Nums w b lb cb ys → Nums w c lc cc us → Nums w d ld cd vs → Calls Tryz.prog 15 #[.agg #[.bool n, .slice a la ca, .slice b lb cb], .agg #[.bool m, .slice c lc cc, .slice d ld cd]] w fun e w' => FracT (arF n xs ys m us vs (subT n xs ys m us vs) (nv ys * nv vs)) (numF (subT n xs ys m us vs) (nv ys * nv vs)) (denF (subT n xs ys m us vs) (nv ys * nv vs)) w e w'
/-- A call tells yes or no, and leaves the world alone. -/
def AnyB (w : World) (e : Ending) (w' : World) : Prop := ∃ q, e = .returned (.bool q) ∧ w' = w

theorem awake8_told {n : Bool} {us vs : List Int} {err : Int} (h : ToldF (makeFF false [6] [4]) (numF (iv false [6]) (nv [4])) (denF (iv false [6]) (nv [4])) n us vs err) : (n = false ∧ us = [3] ∧ vs = [2]) ∧ err = 0 := by
  have hf : makeFF false [6] [4] = none := by decide +kernel
  have hx : numF (iv false [6]) (nv [4]) = 3 := by decide +kernel
  have hy : denF (iv false [6]) (nv [4]) = 2 := by decide +kernel
  rw [hf, hx, hy] at h
  rcases h with ⟨e, h, _⟩ | ⟨_, ⟨h1, h2⟩, rfl⟩
  · cases h
  · obtain ⟨rfl, rfl⟩ := h1.unique (m := false) (ys := [3]) ⟨fun y hy => by simp at hy; subst hy; decide, by decide, by simp [iv, val]⟩
    obtain rfl := h2.unique (ks := [2]) ⟨fun y hy => by simp at hy; subst hy; decide, by decide, by simp [val]⟩
    exact ⟨⟨rfl, rfl, rfl⟩, rfl⟩

theorem r8same_eq (n : Bool) (a b c d : Option Addr) (la ca lb cb lc cc ld cd : Nat) (xs ys : List Int) (w : World) (h1 : Nums w a la ca xs) (h2 : Nums w b lb cb ys) (h3 : Nums w c lc cc xs) (h4 : Nums w d ld cd ys) :
    Calls Tryz.prog 8 #[.agg #[.bool n, .slice a la ca, .slice b lb cb], .agg #[.bool n, .slice c lc cc, .slice d ld cd]] w fun e w' => e = .returned (.bool true) ∧ Below w.heap.size w w' := by
  refine (r8same_any n n _ _ _ _ _ _ _ _ _ _ _ _ _ _ _ _ w h1 h2 h3 h4).mono ?_
  rintro e w' ⟨rfl, hb⟩
  rw [sameB_self, sameB_self]
  exact ⟨by simp, hb⟩
end Go.Proofs.YtchmlfjjgehbkaaGreat

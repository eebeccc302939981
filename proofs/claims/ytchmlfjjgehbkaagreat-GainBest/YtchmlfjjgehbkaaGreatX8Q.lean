/-
  The contract of package rational's alike: two fractions by one denominator.
  Contracts of package rational's Cmp, Add, Sub and Mul.
-/
import Derived.Test.YtchmlfjjgehbkaaGreatX8P
import Derived.Test.YtchmlfjjgehbkaaGreatR8P
import Derived.Test.YtchmlfjjgehbkaaGreatModB
import Derived.Test.YtchmlfjjgehbkaaGreatNatC
import Derived.Deep.RegionWith
import Derived.Deep.RegionHeld3
import Derived.BigRegion
import Derived.Test.YtchmlfjjgehbkaaGreatX8C
namespace Go.Proofs.YtchmlfjjgehbkaaGreat
open Go.RowKit

theorem isW_nat {vs : List Int} {v : Nat} (h : IsN vs v) : IsW false vs (v : Int) := ⟨h.1, by simp [rightI, h.2.1], by simp [iv, h.2.2]⟩

/-- What a call that tells two whole numbers and a number makes. -/
def AlikeT (P Q : Int) (D : Nat) (w : World) (e : Ending) (w' : World) : Prop := ∃ pb pa pl pc ps qb qa ql qc qs da dl dc ds, e = .returned (.tuple #[.agg #[.bool pb, .slice pa pl pc], .agg #[.bool qb, .slice qa ql qc], .slice da dl dc]) ∧ (Nums w' pa pl pc ps ∧ IsW pb ps P) ∧ (Nums w' qa ql qc qs ∧ IsW qb qs Q) ∧ (Nums w' da dl dc ds ∧ IsN ds D) ∧ Below w.heap.size w w'

set_option maxRecDepth 20000 in
set_option maxHeartbeats 20000000 in
theorem alike_any (n m : Bool) (a b c d : Option Addr) (la ca lb cb lc cc ld cd : Nat) (xs ys us vs : List Int) (w : World) (h1 : Nums w a la ca xs) (h2 : Nums w b lb cb ys) (h3 : Nums w c lc cc us) (h4 : Nums w d ld cd vs) (x u : Int) (y v : Nat) (hx : IsW n xs x) (hy : IsN ys y) (hu : IsW m us u) (hv : IsN vs v) (hb1 : ((x * (v : Int)).natAbs : Int) < 18446744073709551616 ^ 64) (hb2 : ((u * (y : Int)).natAbs : Int) < 18446744073709551616 ^ 64) (hb3 : ((y * v : Nat) : Int) < 18446744073709551616 ^ 64) :
    Calls Tryz.prog 37 #[.agg #[.bool n, .slice a la ca, .slice b lb cb], .agg #[.bool m, .slice c lc cc, .slice d ld cd]] w fun e w' => AlikeT (x * (v : Int)) (u * (y : Int)) (y * v) w e w' := by
  obtain ⟨P, hP⟩ : ∃ P, P = x * (v : Int) := ⟨_, rfl⟩
  obtain ⟨Q, hQ⟩ : ∃ Q, Q = u * (y : Int) := ⟨_, rfl⟩
  obtain ⟨D, hD⟩ : ∃ D, D = y * v := ⟨_, rfl⟩
  rw [← hP] at hb1 ⊢
  rw [← hQ] at hb2 ⊢
  rw [← hD] at hb3 ⊢
  have HB : Hid ((P = x * (v : Int) ∧ (P.natAbs : Int) < 18446744073709551616 ^ 64) ∧ (Q = u * (y : Int) ∧ (Q.natAbs : Int) < 18446744073709551616 ^ 64) ∧ D = y * v ∧ ((D : Nat) : Int) < 18446744073709551616 ^ 64) := ⟨⟨hP, hb1⟩, ⟨hQ, hb2⟩, hD, hb3⟩
  clear hP hQ hD hb1 hb2 hb3
  obtain ⟨V, hVe⟩ : ∃ V, V = ((((w.alloc (.cells #[.bool n, .slice a la ca, .slice b lb cb] 30)).alloc (.cells #[.bool m, .slice c lc cc, .slice d ld cd] 30)).alloc (.cells #[.bool false, .slice none 0 0] 28)).alloc (.cells #[.bool false, .slice none 0 0] 28)) := ⟨_, rfl⟩
  have hv1 := balloc w (.cells #[.bool n, .slice a la ca, .slice b lb cb] 30)
  have hv2 := balloc (w.alloc (.cells #[.bool n, .slice a la ca, .slice b lb cb] 30)) (.cells #[.bool m, .slice c lc cc, .slice d ld cd] 30)
  have hv3 := balloc ((w.alloc (.cells #[.bool n, .slice a la ca, .slice b lb cb] 30)).alloc (.cells #[.bool m, .slice c lc cc, .slice d ld cd] 30)) (.cells #[.bool false, .slice none 0 0] 28)
  have hv4 := balloc (((w.alloc (.cells #[.bool n, .slice a la ca, .slice b lb cb] 30)).alloc (.cells #[.bool m, .slice c lc cc, .slice d ld cd] 30)).alloc (.cells #[.bool false, .slice none 0 0] 28)) (.cells #[.bool false, .slice none 0 0] 28)
  have hV := bthen (bthen (bthen hv1 hv2) hv3) hv4
  have hA := (Cell3.new w n a b la ca lb cb).below (bthen (bthen hv2 hv3) hv4)
  have hB := (Cell3.new (w.alloc (.cells #[.bool n, .slice a la ca, .slice b lb cb] 30)) m c d lc cc ld cd).below (bthen hv3 hv4)
  have hR := (Cell2.new ((w.alloc (.cells #[.bool n, .slice a la ca, .slice b lb cb] 30)).alloc (.cells #[.bool m, .slice c lc cc, .slice d ld cd] 30)) false none 0 0).below hv4
  have hT := Cell2.new (((w.alloc (.cells #[.bool n, .slice a la ca, .slice b lb cb] 30)).alloc (.cells #[.bool m, .slice c lc cc, .slice d ld cd] 30)).alloc (.cells #[.bool false, .slice none 0 0] 28)) false none 0 0
  simp only [World.size_alloc] at hB hR hT
  rw [← hVe] at hV hA hB hR hT
  have HVe : Hid (V = ((((w.alloc (.cells #[.bool n, .slice a la ca, .slice b lb cb] 30)).alloc (.cells #[.bool m, .slice c lc cc, .slice d ld cd] 30)).alloc (.cells #[.bool false, .slice none 0 0] 28)).alloc (.cells #[.bool false, .slice none 0 0] 28))) := hVe
  replace h1 := h1.below hV
  replace h2 := h2.below hV
  replace h3 := h3.below hV
  replace h4 := h4.below hV
  clear hv1 hv2 hv3 hv4 hVe
  go_enter Tryz.func37, Tryz.ntmps37
  go_wp2_with fail
  rw [← HVe.out]
  obtain ⟨G, hG⟩ : ∃ G, G = w.heap.size := ⟨_, rfl⟩
  rw [← hG] at hA hB hR hT
  rw [← hG]
  have HG : Hid (G = w.heap.size) := hG
  obtain ⟨c0, c1, c2, -, -, -⟩ := hA
  have hGV : G + 1 < V.heap.size := hB.lt
  obtain ⟨e0, e1, e2, -, -, -⟩ := hB
  clear HVe hG
  have HRB1 : Hid (Below V.heap.size V V) := Below.refl _ _
  have HWo1 : Hid (∀ wx : World, Below V.heap.size V wx → Calls Tryz.prog 60 #[.slice d ld cd] wx fun e w' => e = .returned (.agg #[.bool false, .slice d ld cd]) ∧ Hid (Below V.heap.size V w') ∧ (w'.cell? ⟨G, 0, none⟩ = some (.bool n) ∧ w'.cell? ⟨G, 1, none⟩ = some (.slice a la ca) ∧ w'.cell? ⟨G + 1, 2, none⟩ = some (.slice d ld cd)) ∧ G + 1 < w'.heap.size ∧ (∀ b o, b < wx.heap.size → w'.cell? ⟨b, o, none⟩ = wx.cell? ⟨b, o, none⟩) ∧ (∀ b o, b < wx.heap.size → w'.frozen? ⟨b, o, none⟩ = wx.frozen? ⟨b, o, none⟩) ∧ (∀ b, b < wx.heap.size → b < w'.heap.size)) := by
    intro wx hbx
    refine (wholeOf_any d ld cd wx).mono ?_
    rintro e w' ⟨rfl, hb⟩
    have hb' := bthen hbx hb
    exact ⟨rfl, hb', ⟨bkeep hb' c0 rfl, bkeep hb' c1 rfl, bkeep hb' e2 rfl⟩, Nat.lt_of_lt_of_le hGV hb'.size, bfactsD hb⟩
  have HMu1 : Hid (∀ (wx : World), Below V.heap.size V wx → Calls Tryz.prog 41 #[.agg #[.bool n, .slice a la ca], .agg #[.bool false, .slice d ld cd]] wx fun e w' => ∃ mp ma mn mc, e = .returned (.tuple #[.agg #[.bool mp, .slice ma mn mc], .int .i64 0]) ∧ Hid (WAt w' mp ma mn mc P ∧ Below V.heap.size V w') ∧ (w'.cell? ⟨G, 0, none⟩ = some (.bool n) ∧ w'.cell? ⟨G, 1, none⟩ = some (.slice a la ca) ∧ w'.cell? ⟨G + 1, 2, none⟩ = some (.slice d ld cd)) ∧ G + 1 < w'.heap.size ∧ (∀ b o, b < wx.heap.size → w'.cell? ⟨b, o, none⟩ = wx.cell? ⟨b, o, none⟩) ∧ (∀ b o, b < wx.heap.size → w'.frozen? ⟨b, o, none⟩ = wx.frozen? ⟨b, o, none⟩) ∧ (∀ b, b < wx.heap.size → b < w'.heap.size)) := by
    intro wx hbx
    refine (imul_any n false _ _ _ _ _ _ _ _ wx (h1.below hbx) (h4.below hbx)).mono ?_
    rintro e w' ⟨q, a', n', c', ls, err, rfl, hn, hRes, hb⟩
    have hb' := bthen hbx hb
    have hvW := isW_nat hv
    have := hRes.got hx.2.1 hvW.2.1
    rw [hx.2.2, hvW.2.2, ← HB.out.1.1] at this
    obtain ⟨h3, rfl⟩ := IsW.res this HB.out.1.2
    exact ⟨_, _, _, _, rfl, ⟨⟨_, hn, h3⟩, hb'⟩, ⟨bkeep hb' c0 rfl, bkeep hb' c1 rfl, bkeep hb' e2 rfl⟩, Nat.lt_of_lt_of_le hGV hb'.size, bfactsD hb⟩
  go_cut [7] (fun pv wx => ∃ g7, pv = .pointer (some ⟨g7, 0, none⟩) ∧ Fac wx g7 P ∧ V.heap.size ≤ g7 ∧ Below V.heap.size V wx)
  case first =>
    clear HB hV hR hT h1 h2 h3 h4 hx hy hu hv HG
    have ne0 := World.new_ne V ⟨G, 0, none⟩ c0
    have ne1 := World.new_ne V ⟨G + 1, 2, none⟩ e2
    go_region_held3 (fun w' => (w'.cell? ⟨G, 0, none⟩ = some (.bool n) ∧ w'.cell? ⟨G, 1, none⟩ = some (.slice a la ca) ∧ w'.cell? ⟨G + 1, 2, none⟩ = some (.slice d ld cd))) (first | go_keep | exact o6 | exact n6 | exact ⟨(put2_other (by omega) _ _).trans o6.1, (put2_other (by omega) _ _).trans o6.2.1, (put2_other (by omega) _ _).trans o6.2.2⟩)
      (first
      | (go_at_call 60; with_reducible refine Calls.mono (HWo1.out _ ?_) ?_; (focus (repeat (first | exact HRB1.out | refine bdrawD ?_ | refine bgrowD ?_ _))); rintro e w3 ⟨rfl, hA, n6, n7, hc3, hf3, hs3⟩; have ne3 := World.new_ne w3 ⟨G, 0, none⟩ n6.1; have ne4 := World.new_ne w3 ⟨G + 1, 2, none⟩ n6.2.2; (try have k30 := hs3 (V.heap.size) (by first | omega | (simp; done) | (simp; omega))); (try have m300 := hc3 (V.heap.size) 0 (by first | omega | (simp; done) | (simp; omega))); (try have f300 := hf3 (V.heap.size) 0 (by first | omega | (simp; done) | (simp; omega))); (try have m301 := hc3 (V.heap.size) 1 (by first | omega | (simp; done) | (simp; omega))); (try have f301 := hf3 (V.heap.size) 1 (by first | omega | (simp; done) | (simp; omega))); clear hc3 hf3 hs3)
      | (go_at_call 41; with_reducible refine Calls.mono (HMu1.out _ ?_) ?_; (focus (repeat (first | exact hA.out | refine bdrawD ?_ | refine bgrowD ?_ _))); rintro e w6 ⟨mp, ma, mn, mc, rfl, hM, o6, o7, hc6, hf6, hs6⟩; have ne6 := World.new_ne w6 ⟨G, 0, none⟩ o6.1; have ne7 := World.new_ne w6 ⟨G + 1, 2, none⟩ o6.2.2; (try have k60 := hs6 (V.heap.size) (by first | omega | (simp; done) | (simp; omega))); (try have m600 := hc6 (V.heap.size) 0 (by first | omega | (simp; done) | (simp; omega))); (try have f600 := hf6 (V.heap.size) 0 (by first | omega | (simp; done) | (simp; omega))); (try have m601 := hc6 (V.heap.size) 1 (by first | omega | (simp; done) | (simp; omega))); (try have f601 := hf6 (V.heap.size) 1 (by first | omega | (simp; done) | (simp; omega))); (try have k61 := hs6 (w3.heap.size) (by first | omega | (simp; done) | (simp; omega))); (try have m610 := hc6 (w3.heap.size) 0 (by first | omega | (simp; done) | (simp; omega))); (try have f610 := hf6 (w3.heap.size) 0 (by first | omega | (simp; done) | (simp; omega))); (try have m611 := hc6 (w3.heap.size) 1 (by first | omega | (simp; done) | (simp; omega))); (try have f611 := hf6 (w3.heap.size) 1 (by first | omega | (simp; done) | (simp; omega))); clear hc6 hf6 hs6))
    all_goals
      have hz6 := hM.out.2.size
      have hz3 := hA.out.size
      clear HWo1 HMu1 HRB1
      go_wp2_with fail
      go_meet
      case rel =>
        obtain ⟨⟨ms, hMs, hMW⟩, hbM⟩ := hM.out
        first
          | exact ⟨_, rfl, fac_alloc hMs hMW.2.1 hMW.2.2, hz6, bgrowD hbM _⟩
          | (refine ⟨_, rfl, fac_put (q := false) (sa := none) (sn := 0) (sc := 0) ?_ ?_ ?_ ?_ hMs hMW.2.1 hMW.2.2, ?_, (hbM.setCell ?_ _).setCell ?_ _⟩
             · go_simp
             · go_simp
             · go_simp
             · go_simp
             · first | omega | (simp; done) | (simp; omega)
             · first | (simp; done) | (simp; omega)
             · first | (simp; done) | (simp; omega))
  case rest =>
    obtain ⟨g7, rfl, F7, hg7, hbc⟩ := hcut
    obtain ⟨W, hW⟩ : ∃ W, W = wc := ⟨_, rfl⟩
    subst hW
    have hTV := hT.lt
    have hg79 : G + 1 + 1 + 1 < g7 := Nat.lt_of_lt_of_le hTV hg7
    have hgW : G + 1 + 1 + 1 < W.heap.size := Nat.lt_of_lt_of_le hTV hbc.size
    clear hTV hg7
    have hB5 := bthen hV hbc
    replace hR := hR.below hbc
    replace hT := hT.below hbc
    replace h1 := h1.below hbc
    replace h2 := h2.below hbc
    replace h3 := h3.below hbc
    replace h4 := h4.below hbc
    replace c0 := bkeep hbc c0 rfl
    replace c1 := bkeep hbc c1 rfl
    replace c2 := bkeep hbc c2 rfl
    replace e0 := bkeep hbc e0 rfl
    replace e1 := bkeep hbc e1 rfl
    replace e2 := bkeep hbc e2 rfl
    replace hGV := Nat.lt_of_lt_of_le hGV hbc.size
    clear HWo1 HMu1 HRB1 hbc hV
    go_wp2_with fail
    have HRB2 : Hid (Below W.heap.size W W) := Below.refl _ _
    have HWo2 : Hid (∀ wx : World, Below W.heap.size W wx → Calls Tryz.prog 60 #[.slice b lb cb] wx fun e w' => e = .returned (.agg #[.bool false, .slice b lb cb]) ∧ Hid (Below W.heap.size W w') ∧ (w'.cell? ⟨G + 1, 0, none⟩ = some (.bool m) ∧ w'.cell? ⟨G + 1, 1, none⟩ = some (.slice c lc cc) ∧ w'.cell? ⟨G, 2, none⟩ = some (.slice b lb cb)) ∧ G + 1 < w'.heap.size ∧ (∀ b o, b < wx.heap.size → w'.cell? ⟨b, o, none⟩ = wx.cell? ⟨b, o, none⟩) ∧ (∀ b o, b < wx.heap.size → w'.frozen? ⟨b, o, none⟩ = wx.frozen? ⟨b, o, none⟩) ∧ (∀ b, b < wx.heap.size → b < w'.heap.size)) := by
      intro wx hbx
      refine (wholeOf_any b lb cb wx).mono ?_
      rintro e w' ⟨rfl, hb⟩
      have hb' := bthen hbx hb
      exact ⟨rfl, hb', ⟨bkeep hb' e0 rfl, bkeep hb' e1 rfl, bkeep hb' c2 rfl⟩, Nat.lt_of_lt_of_le hGV hb'.size, bfactsD hb⟩
    have HMu2 : Hid (∀ (wx : World), Below W.heap.size W wx → Calls Tryz.prog 41 #[.agg #[.bool m, .slice c lc cc], .agg #[.bool false, .slice b lb cb]] wx fun e w' => ∃ mp ma mn mc, e = .returned (.tuple #[.agg #[.bool mp, .slice ma mn mc], .int .i64 0]) ∧ Hid (WAt w' mp ma mn mc Q ∧ Below W.heap.size W w') ∧ (w'.cell? ⟨G + 1, 0, none⟩ = some (.bool m) ∧ w'.cell? ⟨G + 1, 1, none⟩ = some (.slice c lc cc) ∧ w'.cell? ⟨G, 2, none⟩ = some (.slice b lb cb)) ∧ G + 1 < w'.heap.size ∧ (∀ b o, b < wx.heap.size → w'.cell? ⟨b, o, none⟩ = wx.cell? ⟨b, o, none⟩) ∧ (∀ b o, b < wx.heap.size → w'.frozen? ⟨b, o, none⟩ = wx.frozen? ⟨b, o, none⟩) ∧ (∀ b, b < wx.heap.size → b < w'.heap.size)) := by
      intro wx hbx
      refine (imul_any m false _ _ _ _ _ _ _ _ wx (h3.below hbx) (h2.below hbx)).mono ?_
      rintro e w' ⟨q, a', n', c', ls, err, rfl, hn, hRes, hb⟩
      have hb' := bthen hbx hb
      have hvW := isW_nat hy
      have := hRes.got hu.2.1 hvW.2.1
      rw [hu.2.2, hvW.2.2, ← HB.out.2.1.1] at this
      obtain ⟨h3, rfl⟩ := IsW.res this HB.out.2.1.2
      exact ⟨_, _, _, _, rfl, ⟨⟨_, hn, h3⟩, hb'⟩, ⟨bkeep hb' e0 rfl, bkeep hb' e1 rfl, bkeep hb' c2 rfl⟩, Nat.lt_of_lt_of_le hGV hb'.size, bfactsD hb⟩
    go_cut [9] (fun pv wx => ∃ g9, pv = .pointer (some ⟨g9, 0, none⟩) ∧ Fac wx g9 Q ∧ W.heap.size ≤ g9 ∧ Below W.heap.size W wx)
    case first =>
      clear HB hB5 hR hT h1 h2 h3 h4 hx hy hu hv HG F7
      have ne0 := World.new_ne W ⟨G + 1, 0, none⟩ e0
      have ne1 := World.new_ne W ⟨G, 2, none⟩ c2
      go_region_held3 (fun w' => (w'.cell? ⟨G + 1, 0, none⟩ = some (.bool m) ∧ w'.cell? ⟨G + 1, 1, none⟩ = some (.slice c lc cc) ∧ w'.cell? ⟨G, 2, none⟩ = some (.slice b lb cb))) (first | go_keep | exact o6 | exact n6 | exact ⟨(put2_other (by omega) _ _).trans o6.1, (put2_other (by omega) _ _).trans o6.2.1, (put2_other (by omega) _ _).trans o6.2.2⟩)
        (first
        | (go_at_call 60; with_reducible refine Calls.mono (HWo2.out _ ?_) ?_; (focus (repeat (first | exact HRB2.out | refine bdrawD ?_ | refine bgrowD ?_ _))); rintro e w3 ⟨rfl, hA, n6, n7, hc3, hf3, hs3⟩; have ne3 := World.new_ne w3 ⟨G + 1, 0, none⟩ n6.1; have ne4 := World.new_ne w3 ⟨G, 2, none⟩ n6.2.2; (try have k30 := hs3 (W.heap.size) (by first | omega | (simp; done) | (simp; omega))); (try have m300 := hc3 (W.heap.size) 0 (by first | omega | (simp; done) | (simp; omega))); (try have f300 := hf3 (W.heap.size) 0 (by first | omega | (simp; done) | (simp; omega))); (try have m301 := hc3 (W.heap.size) 1 (by first | omega | (simp; done) | (simp; omega))); (try have f301 := hf3 (W.heap.size) 1 (by first | omega | (simp; done) | (simp; omega))); clear hc3 hf3 hs3)
        | (go_at_call 41; with_reducible refine Calls.mono (HMu2.out _ ?_) ?_; (focus (repeat (first | exact hA.out | refine bdrawD ?_ | refine bgrowD ?_ _))); rintro e w6 ⟨mp, ma, mn, mc, rfl, hM, o6, o7, hc6, hf6, hs6⟩; have ne6 := World.new_ne w6 ⟨G + 1, 0, none⟩ o6.1; have ne7 := World.new_ne w6 ⟨G, 2, none⟩ o6.2.2; (try have k60 := hs6 (W.heap.size) (by first | omega | (simp; done) | (simp; omega))); (try have m600 := hc6 (W.heap.size) 0 (by first | omega | (simp; done) | (simp; omega))); (try have f600 := hf6 (W.heap.size) 0 (by first | omega | (simp; done) | (simp; omega))); (try have m601 := hc6 (W.heap.size) 1 (by first | omega | (simp; done) | (simp; omega))); (try have f601 := hf6 (W.heap.size) 1 (by first | omega | (simp; done) | (simp; omega))); (try have k61 := hs6 (w3.heap.size) (by first | omega | (simp; done) | (simp; omega))); (try have m610 := hc6 (w3.heap.size) 0 (by first | omega | (simp; done) | (simp; omega))); (try have f610 := hf6 (w3.heap.size) 0 (by first | omega | (simp; done) | (simp; omega))); (try have m611 := hc6 (w3.heap.size) 1 (by first | omega | (simp; done) | (simp; omega))); (try have f611 := hf6 (w3.heap.size) 1 (by first | omega | (simp; done) | (simp; omega))); clear hc6 hf6 hs6))
      all_goals
        have hz6 := hM.out.2.size
        have hz3 := hA.out.size
        clear HWo2 HMu2 HRB2
        go_wp2_with fail
        go_meet
        case rel =>
          obtain ⟨⟨ms, hMs, hMW⟩, hbM⟩ := hM.out
          first
            | exact ⟨_, rfl, fac_alloc hMs hMW.2.1 hMW.2.2, hz6, bgrowD hbM _⟩
            | (refine ⟨_, rfl, fac_put (q := false) (sa := none) (sn := 0) (sc := 0) ?_ ?_ ?_ ?_ hMs hMW.2.1 hMW.2.2, ?_, (hbM.setCell ?_ _).setCell ?_ _⟩
               · go_simp
               · go_simp
               · go_simp
               · go_simp
               · first | omega | (simp; done) | (simp; omega)
               · first | (simp; done) | (simp; omega)
               · first | (simp; done) | (simp; omega))
    case rest =>
      obtain ⟨g9, rfl, F9, hg9, hbc⟩ := hcut
      have hg99 : G + 1 + 1 + 1 < g9 := Nat.lt_of_lt_of_le hgW hg9
      clear hgW hg9
      have hB6 := bthen hB5 hbc
      replace F7 := F7.below hbc
      replace hR := hR.below hbc
      replace hT := hT.below hbc
      replace h2 := h2.below hbc
      replace h4 := h4.below hbc
      replace c2 := bkeep hbc c2 rfl
      replace e2 := bkeep hbc e2 rfl
      clear HWo2 HMu2 HRB2 hbc hB5 c0 c1 e0 e1 h1 h3 hx hu hGV
      go_wp2_with fail
      refine (mul_any _ _ _ _ _ _ _ _ _ h2 h4).mono ?_
      rintro e w8 ⟨da, dl, dc, ds, err, rfl, hDn, hRes, -, hb8⟩
      have hDs := hRes.got hy.2.1 hv.2.1
      rw [hy.2.2, hv.2.2, ← Int.natCast_mul, ← HB.out.2.2.1] at hDs
      have hDN := (IsN.res hDs HB.out.2.2.2).1
      have hB8 := bthen hB6 hb8
      replace F7 := F7.below hb8
      replace F9 := F9.below hb8
      obtain ⟨r0, r1, f0, f1⟩ := hR.below hb8
      obtain ⟨t0, t1, k0, k1⟩ := hT.below hb8
      clear hb8 hB6 hRes hDs h2 h4 hy hv c2 e2 HB hR hT
      obtain ⟨pb, pa, pl, pc, ps, ⟨p0, p1⟩, -, hPn, hPr, hPv⟩ := F7
      obtain ⟨qb, qa, ql, qc, qs, ⟨q0, q1⟩, -, hQn, hQr, hQv⟩ := F9
      have HPQ : Hid ((Nums w8 pa pl pc ps ∧ IsW pb ps P) ∧ (Nums w8 qa ql qc qs ∧ IsW qb qs Q) ∧ (Nums w8 da dl dc ds ∧ IsN ds D)) := ⟨⟨hPn, hPn.digs, hPr, hPv⟩, ⟨hQn, hQn.digs, hQr, hQv⟩, hDn, hDN⟩
      clear hPn hPr hPv hQn hQr hQv hDn hDN
      have hgr : w.heap.size ≤ G + 1 + 1 := by rw [HG.out]; omega
      have hgt : w.heap.size ≤ G + 1 + 1 + 1 := by rw [HG.out]; omega
      have hne : G + 1 + 1 + 1 ≠ G + 1 + 1 := by omega
      have n1 : g7 ≠ G + 1 + 1 := by omega
      have n2 : g7 ≠ G + 1 + 1 + 1 := by omega
      have n3 : g9 ≠ G + 1 + 1 := by omega
      have n4 : g9 ≠ G + 1 + 1 + 1 := by omega
      have HF1 : Hid (AlikeT P Q D w (.returned (.tuple #[.agg #[.bool pb, .slice pa pl pc], .agg #[.bool qb, .slice qa ql qc], .slice da dl dc])) ((((w8.setCell ⟨G + 1 + 1, 0, none⟩ (.bool pb)).setCell ⟨G + 1 + 1, 1, none⟩ (.slice pa pl pc)).setCell ⟨G + 1 + 1 + 1, 0, none⟩ (.bool qb)).setCell ⟨G + 1 + 1 + 1, 1, none⟩ (.slice qa ql qc)).drew) := by
        obtain ⟨⟨a1, a2⟩, ⟨a3, a4⟩, a5, a6⟩ := HPQ.out
        exact ⟨_, _, _, _, ps, _, _, _, _, qs, _, _, _, ds, rfl, ⟨(a1.put4 hne r0 r1 t0 t1 _ _ _ _).drawD, a2⟩, ⟨(a3.put4 hne r0 r1 t0 t1 _ _ _ _).drawD, a4⟩, ⟨(a5.put4 hne r0 r1 t0 t1 _ _ _ _).drawD, a6⟩, bdrawD (bput4 hB8 hgr hgt _ _ _ _)⟩
      have HF2 : Hid (AlikeT P Q D w (.returned (.tuple #[.agg #[.bool pb, .slice pa pl pc], .agg #[.bool qb, .slice qa ql qc], .slice da dl dc])) ((((w8.setCell ⟨G + 1 + 1 + 1, 0, none⟩ (.bool qb)).setCell ⟨G + 1 + 1 + 1, 1, none⟩ (.slice qa ql qc)).setCell ⟨G + 1 + 1, 0, none⟩ (.bool pb)).setCell ⟨G + 1 + 1, 1, none⟩ (.slice pa pl pc)).drew) := by
        obtain ⟨⟨a1, a2⟩, ⟨a3, a4⟩, a5, a6⟩ := HPQ.out
        exact ⟨_, _, _, _, ps, _, _, _, _, qs, _, _, _, ds, rfl, ⟨(a1.put4 hne.symm t0 t1 r0 r1 _ _ _ _).drawD, a2⟩, ⟨(a3.put4 hne.symm t0 t1 r0 r1 _ _ _ _).drawD, a4⟩, ⟨(a5.put4 hne.symm t0 t1 r0 r1 _ _ _ _).drawD, a6⟩, bdrawD (bput4 hB8 hgt hgr _ _ _ _)⟩
      have HX := (show Hid _ from put4_cells hne r0 r1 t0 t1 (.bool pb) (.slice pa pl pc) (.bool qb) (.slice qa ql qc))
      have HZ := (show Hid _ from put4_cells hne.symm t0 t1 r0 r1 (.bool qb) (.slice qa ql qc) (.bool pb) (.slice pa pl pc))
      have K1 : Hid (((w8.setCell ⟨G + 1 + 1, 0, none⟩ (.bool pb)).setCell ⟨G + 1 + 1, 1, none⟩ (.slice pa pl pc)).cell? ⟨g7, 0, none⟩ = some (.bool pb) ∧ ((w8.setCell ⟨G + 1 + 1, 0, none⟩ (.bool pb)).setCell ⟨G + 1 + 1, 1, none⟩ (.slice pa pl pc)).cell? ⟨g7, 1, none⟩ = some (.slice pa pl pc) ∧ ((w8.setCell ⟨G + 1 + 1, 0, none⟩ (.bool pb)).setCell ⟨G + 1 + 1, 1, none⟩ (.slice pa pl pc)).cell? ⟨g9, 0, none⟩ = some (.bool qb) ∧ ((w8.setCell ⟨G + 1 + 1, 0, none⟩ (.bool pb)).setCell ⟨G + 1 + 1, 1, none⟩ (.slice pa pl pc)).cell? ⟨g9, 1, none⟩ = some (.slice qa ql qc)) := ⟨(put2_other n1 _ _).trans p0, (put2_other n1 _ _).trans p1, (put2_other n3 _ _).trans q0, (put2_other n3 _ _).trans q1⟩
      have K2 : Hid (((w8.setCell ⟨G + 1 + 1 + 1, 0, none⟩ (.bool qb)).setCell ⟨G + 1 + 1 + 1, 1, none⟩ (.slice qa ql qc)).cell? ⟨g7, 0, none⟩ = some (.bool pb) ∧ ((w8.setCell ⟨G + 1 + 1 + 1, 0, none⟩ (.bool qb)).setCell ⟨G + 1 + 1 + 1, 1, none⟩ (.slice qa ql qc)).cell? ⟨g7, 1, none⟩ = some (.slice pa pl pc) ∧ ((w8.setCell ⟨G + 1 + 1 + 1, 0, none⟩ (.bool qb)).setCell ⟨G + 1 + 1 + 1, 1, none⟩ (.slice qa ql qc)).cell? ⟨g9, 0, none⟩ = some (.bool qb) ∧ ((w8.setCell ⟨G + 1 + 1 + 1, 0, none⟩ (.bool qb)).setCell ⟨G + 1 + 1 + 1, 1, none⟩ (.slice qa ql qc)).cell? ⟨g9, 1, none⟩ = some (.slice qa ql qc)) := ⟨(put2_other n2 _ _).trans p0, (put2_other n2 _ _).trans p1, (put2_other n4 _ _).trans q0, (put2_other n4 _ _).trans q1⟩
      have K3 : Hid (((((w8.setCell ⟨G + 1 + 1, 0, none⟩ (.bool pb)).setCell ⟨G + 1 + 1, 1, none⟩ (.slice pa pl pc)).setCell ⟨G + 1 + 1 + 1, 0, none⟩ (.bool qb)).setCell ⟨G + 1 + 1 + 1, 1, none⟩ (.slice qa ql qc)).cell? ⟨g7, 0, none⟩ = some (.bool pb) ∧ ((((w8.setCell ⟨G + 1 + 1, 0, none⟩ (.bool pb)).setCell ⟨G + 1 + 1, 1, none⟩ (.slice pa pl pc)).setCell ⟨G + 1 + 1 + 1, 0, none⟩ (.bool qb)).setCell ⟨G + 1 + 1 + 1, 1, none⟩ (.slice qa ql qc)).cell? ⟨g7, 1, none⟩ = some (.slice pa pl pc) ∧ ((((w8.setCell ⟨G + 1 + 1, 0, none⟩ (.bool pb)).setCell ⟨G + 1 + 1, 1, none⟩ (.slice pa pl pc)).setCell ⟨G + 1 + 1 + 1, 0, none⟩ (.bool qb)).setCell ⟨G + 1 + 1 + 1, 1, none⟩ (.slice qa ql qc)).cell? ⟨g9, 0, none⟩ = some (.bool qb) ∧ ((((w8.setCell ⟨G + 1 + 1, 0, none⟩ (.bool pb)).setCell ⟨G + 1 + 1, 1, none⟩ (.slice pa pl pc)).setCell ⟨G + 1 + 1 + 1, 0, none⟩ (.bool qb)).setCell ⟨G + 1 + 1 + 1, 1, none⟩ (.slice qa ql qc)).cell? ⟨g9, 1, none⟩ = some (.slice qa ql qc)) := ⟨(put2_other n2 _ _).trans K1.out.1, (put2_other n2 _ _).trans K1.out.2.1, (put2_other n4 _ _).trans K1.out.2.2.1, (put2_other n4 _ _).trans K1.out.2.2.2⟩
      have K4 : Hid (((((w8.setCell ⟨G + 1 + 1 + 1, 0, none⟩ (.bool qb)).setCell ⟨G + 1 + 1 + 1, 1, none⟩ (.slice qa ql qc)).setCell ⟨G + 1 + 1, 0, none⟩ (.bool pb)).setCell ⟨G + 1 + 1, 1, none⟩ (.slice pa pl pc)).cell? ⟨g7, 0, none⟩ = some (.bool pb) ∧ ((((w8.setCell ⟨G + 1 + 1 + 1, 0, none⟩ (.bool qb)).setCell ⟨G + 1 + 1 + 1, 1, none⟩ (.slice qa ql qc)).setCell ⟨G + 1 + 1, 0, none⟩ (.bool pb)).setCell ⟨G + 1 + 1, 1, none⟩ (.slice pa pl pc)).cell? ⟨g7, 1, none⟩ = some (.slice pa pl pc) ∧ ((((w8.setCell ⟨G + 1 + 1 + 1, 0, none⟩ (.bool qb)).setCell ⟨G + 1 + 1 + 1, 1, none⟩ (.slice qa ql qc)).setCell ⟨G + 1 + 1, 0, none⟩ (.bool pb)).setCell ⟨G + 1 + 1, 1, none⟩ (.slice pa pl pc)).cell? ⟨g9, 0, none⟩ = some (.bool qb) ∧ ((((w8.setCell ⟨G + 1 + 1 + 1, 0, none⟩ (.bool qb)).setCell ⟨G + 1 + 1 + 1, 1, none⟩ (.slice qa ql qc)).setCell ⟨G + 1 + 1, 0, none⟩ (.bool pb)).setCell ⟨G + 1 + 1, 1, none⟩ (.slice pa pl pc)).cell? ⟨g9, 1, none⟩ = some (.slice qa ql qc)) := ⟨(put2_other n1 _ _).trans K2.out.1, (put2_other n1 _ _).trans K2.out.2.1, (put2_other n3 _ _).trans K2.out.2.2.1, (put2_other n3 _ _).trans K2.out.2.2.2⟩
      clear HPQ hB8 HG
      go_wp2_with fail
      go_region_held3 (fun w' => (w'.cell? ⟨g7, 0, none⟩ = some (.bool pb) ∧ w'.cell? ⟨g7, 1, none⟩ = some (.slice pa pl pc) ∧ w'.cell? ⟨g9, 0, none⟩ = some (.bool qb) ∧ w'.cell? ⟨g9, 1, none⟩ = some (.slice qa ql qc))) (first | exact K1.out | exact K2.out | exact K3.out | exact K4.out | go_keep) (fail)
      all_goals
        clear K1 K2 K3 K4
        go_wp2_with fail
        obtain ⟨⟨x1, x2⟩, x3, x4⟩ := HX.out
        obtain ⟨⟨z1, z2⟩, z3, z4⟩ := HZ.out
        first
        | exact bodyPost_ret (v := .tuple #[.agg #[.bool pb, .slice pa pl pc], .agg #[.bool qb, .slice qa ql qc], .slice da dl dc]) (by simp [results, Tryz.results37, go_sem, x1, x2, x3, x4]) rfl HF1.out
        | exact bodyPost_ret (v := .tuple #[.agg #[.bool pb, .slice pa pl pc], .agg #[.bool qb, .slice qa ql qc], .slice da dl dc]) (by simp [results, Tryz.results37, go_sem, z1, z2, z3, z4]) rfl HF2.out
end Go.Proofs.YtchmlfjjgehbkaaGreat

namespace Go.Proofs.YtchmlfjjgehbkaaGreat
open Go.RowKit

theorem mul_16 {x u : Int} (hx : (x.natAbs : Int) < 18446744073709551616 ^ 16) (hu : (u.natAbs : Int) < 18446744073709551616 ^ 16) : ((x * u).natAbs : Int) < 18446744073709551616 ^ 64 := by
  have h := prod_16 (x := x) (v := u.natAbs) hx hu
  have e : ((x * (u.natAbs : Int)).natAbs : Int) = ((x * u).natAbs : Int) := by rw [Int.natAbs_mul, Int.natAbs_mul, Int.natAbs_natCast]
  rw [e] at h
  have h2 : (18446744073709551616 : Int) ^ 32 < 18446744073709551616 ^ 64 := by decide
  omega

theorem six_new (W : World) (n m : Bool) (a b c d : Option Addr) (la ca lb cb lc cc ld cd : Nat) : ((W.alloc (.cells #[.bool n, .slice a la ca, .slice b lb cb, .bool m, .slice c lc cc, .slice d ld cd] 30)).cell? ⟨W.heap.size, 0, none⟩ = some (.bool n) ∧ (W.alloc (.cells #[.bool n, .slice a la ca, .slice b lb cb, .bool m, .slice c lc cc, .slice d ld cd] 30)).cell? ⟨W.heap.size, 1, none⟩ = some (.slice a la ca) ∧ (W.alloc (.cells #[.bool n, .slice a la ca, .slice b lb cb, .bool m, .slice c lc cc, .slice d ld cd] 30)).cell? ⟨W.heap.size, 2, none⟩ = some (.slice b lb cb) ∧ (W.alloc (.cells #[.bool n, .slice a la ca, .slice b lb cb, .bool m, .slice c lc cc, .slice d ld cd] 30)).cell? ⟨W.heap.size, 3, none⟩ = some (.bool m) ∧ (W.alloc (.cells #[.bool n, .slice a la ca, .slice b lb cb, .bool m, .slice c lc cc, .slice d ld cd] 30)).cell? ⟨W.heap.size, 4, none⟩ = some (.slice c lc cc) ∧ (W.alloc (.cells #[.bool n, .slice a la ca, .slice b lb cb, .bool m, .slice c lc cc, .slice d ld cd] 30)).cell? ⟨W.heap.size, 5, none⟩ = some (.slice d ld cd)) := ⟨by simp, by simp, by simp, by simp, by simp, by simp⟩

set_option maxRecDepth 20000 in
set_option maxHeartbeats 20000000 in
theorem cmp_ok8 : CmpOk8 := by
  intro n m a b c d la ca lb cb lc cc ld cd xs ys us vs w h1 h2 h3 h4
  obtain ⟨t, ht⟩ : ∃ t, t = cmpFF n xs ys m us vs := ⟨_, rfl⟩
  rw [← ht]
  have HT : Hid (t = cmpFF n xs ys m us vs) := ht
  clear ht
  obtain ⟨V, hVe⟩ : ∃ V, V = (((w.alloc (.cells #[.bool n, .slice a la ca, .slice b lb cb] 30)).alloc (.cells #[.bool m, .slice c lc cc, .slice d ld cd] 30)).alloc (.cells #[.bool n, .slice a la ca, .slice b lb cb, .bool m, .slice c lc cc, .slice d ld cd] 30)) := ⟨_, rfl⟩
  have hv1 := balloc w (.cells #[.bool n, .slice a la ca, .slice b lb cb] 30)
  have hv2 := balloc (w.alloc (.cells #[.bool n, .slice a la ca, .slice b lb cb] 30)) (.cells #[.bool m, .slice c lc cc, .slice d ld cd] 30)
  have hv3 := balloc ((w.alloc (.cells #[.bool n, .slice a la ca, .slice b lb cb] 30)).alloc (.cells #[.bool m, .slice c lc cc, .slice d ld cd] 30)) (.cells #[.bool n, .slice a la ca, .slice b lb cb, .bool m, .slice c lc cc, .slice d ld cd] 30)
  have hV := bthen (bthen (hv1) hv2) hv3
  have hA := (Cell3.new w n a b la ca lb cb).below (bthen (hv2) hv3)
  have hB := (Cell3.new (w.alloc (.cells #[.bool n, .slice a la ca, .slice b lb cb] 30)) m c d lc cc ld cd).below (hv3)
  have hS : ((((w.alloc (.cells #[.bool n, .slice a la ca, .slice b lb cb] 30)).alloc (.cells #[.bool m, .slice c lc cc, .slice d ld cd] 30)).alloc (.cells #[.bool n, .slice a la ca, .slice b lb cb, .bool m, .slice c lc cc, .slice d ld cd] 30)).cell? ⟨((w.alloc (.cells #[.bool n, .slice a la ca, .slice b lb cb] 30)).alloc (.cells #[.bool m, .slice c lc cc, .slice d ld cd] 30)).heap.size, 0, none⟩ = some (.bool n) ∧ (((w.alloc (.cells #[.bool n, .slice a la ca, .slice b lb cb] 30)).alloc (.cells #[.bool m, .slice c lc cc, .slice d ld cd] 30)).alloc (.cells #[.bool n, .slice a la ca, .slice b lb cb, .bool m, .slice c lc cc, .slice d ld cd] 30)).cell? ⟨((w.alloc (.cells #[.bool n, .slice a la ca, .slice b lb cb] 30)).alloc (.cells #[.bool m, .slice c lc cc, .slice d ld cd] 30)).heap.size, 1, none⟩ = some (.slice a la ca) ∧ (((w.alloc (.cells #[.bool n, .slice a la ca, .slice b lb cb] 30)).alloc (.cells #[.bool m, .slice c lc cc, .slice d ld cd] 30)).alloc (.cells #[.bool n, .slice a la ca, .slice b lb cb, .bool m, .slice c lc cc, .slice d ld cd] 30)).cell? ⟨((w.alloc (.cells #[.bool n, .slice a la ca, .slice b lb cb] 30)).alloc (.cells #[.bool m, .slice c lc cc, .slice d ld cd] 30)).heap.size, 2, none⟩ = some (.slice b lb cb) ∧ (((w.alloc (.cells #[.bool n, .slice a la ca, .slice b lb cb] 30)).alloc (.cells #[.bool m, .slice c lc cc, .slice d ld cd] 30)).alloc (.cells #[.bool n, .slice a la ca, .slice b lb cb, .bool m, .slice c lc cc, .slice d ld cd] 30)).cell? ⟨((w.alloc (.cells #[.bool n, .slice a la ca, .slice b lb cb] 30)).alloc (.cells #[.bool m, .slice c lc cc, .slice d ld cd] 30)).heap.size, 3, none⟩ = some (.bool m) ∧ (((w.alloc (.cells #[.bool n, .slice a la ca, .slice b lb cb] 30)).alloc (.cells #[.bool m, .slice c lc cc, .slice d ld cd] 30)).alloc (.cells #[.bool n, .slice a la ca, .slice b lb cb, .bool m, .slice c lc cc, .slice d ld cd] 30)).cell? ⟨((w.alloc (.cells #[.bool n, .slice a la ca, .slice b lb cb] 30)).alloc (.cells #[.bool m, .slice c lc cc, .slice d ld cd] 30)).heap.size, 4, none⟩ = some (.slice c lc cc) ∧ (((w.alloc (.cells #[.bool n, .slice a la ca, .slice b lb cb] 30)).alloc (.cells #[.bool m, .slice c lc cc, .slice d ld cd] 30)).alloc (.cells #[.bool n, .slice a la ca, .slice b lb cb, .bool m, .slice c lc cc, .slice d ld cd] 30)).cell? ⟨((w.alloc (.cells #[.bool n, .slice a la ca, .slice b lb cb] 30)).alloc (.cells #[.bool m, .slice c lc cc, .slice d ld cd] 30)).heap.size, 5, none⟩ = some (.slice d ld cd)) := six_new _ n m a b c d la ca lb cb lc cc ld cd
  simp only [World.size_alloc] at hB hS
  rw [← hVe] at hV hA hB hS
  have HVe : Hid (V = (((w.alloc (.cells #[.bool n, .slice a la ca, .slice b lb cb] 30)).alloc (.cells #[.bool m, .slice c lc cc, .slice d ld cd] 30)).alloc (.cells #[.bool n, .slice a la ca, .slice b lb cb, .bool m, .slice c lc cc, .slice d ld cd] 30))) := hVe
  replace h1 := h1.below hV
  replace h2 := h2.below hV
  replace h3 := h3.below hV
  replace h4 := h4.below hV
  clear hv1 hv2 hv3 hVe
  go_enter Tryz.func28, Tryz.ntmps28
  go_wp2_with fail
  rw [← HVe.out]
  obtain ⟨G, hG⟩ : ∃ G, G = w.heap.size := ⟨_, rfl⟩
  rw [← hG] at hA hB hS
  rw [← hG]
  have HG : Hid (G = w.heap.size) := hG
  obtain ⟨c0, c1, c2, -, -, -⟩ := hA
  obtain ⟨e0, e1, e2, -, -, -⟩ := hB
  obtain ⟨s0, s1, s2, s3, s4, s5⟩ := hS
  clear HVe hG
  refine (mayF2_any n m a b c d la ca lb cb lc cc ld cd (G + 1 + 1) xs ys us vs V (fun wx hbx => rgt_ok8 n _ _ _ _ _ _ _ _ wx (h1.below hbx) (h2.below hbx)) (fun wx hbx => rgt_ok8 m _ _ _ _ _ _ _ _ wx (h3.below hbx) (h4.below hbx)) s0 s1 s2 s3 s4 s5).mono ?_
  rintro e w1 ⟨rfl, hb1⟩
  have hB1 := bthen hV hb1
  replace h1 := h1.below hb1
  replace h2 := h2.below hb1
  replace h3 := h3.below hb1
  replace h4 := h4.below hb1
  replace c0 := bkeep hb1 c0 rfl
  replace c1 := bkeep hb1 c1 rfl
  replace c2 := bkeep hb1 c2 rfl
  replace e0 := bkeep hb1 e0 rfl
  replace e1 := bkeep hb1 e1 rfl
  replace e2 := bkeep hb1 e2 rfl
  clear hb1 hV s0 s1 s2 s3 s4 s5
  cases hq : (rightF n xs ys && rightF m us vs) with
  | false =>
    have HE : Hid (t = 0) := by show _ = _; rw [HT.out]; unfold cmpFF; rw [hq]; rfl
    clear h1 h2 h3 h4 HT
    go_wp2
    go_ret
    exact ⟨ret_int HE.out.symm, hB1⟩
  | true =>
    have hq2 := hq
    rw [Bool.and_eq_true] at hq2
    obtain ⟨hr1, hr2⟩ := hq2
    obtain ⟨hxW, hyN, hy0, hg1, hx16, hy16⟩ := rightF_parts h1.digs h2.digs hr1
    obtain ⟨huW, hvN, hv0, hg2, hu16, hv16⟩ := rightF_parts h3.digs h4.digs hr2
    obtain ⟨x, hxe⟩ : ∃ x, x = iv n xs := ⟨_, rfl⟩
    obtain ⟨y, hye⟩ : ∃ y, y = nv ys := ⟨_, rfl⟩
    obtain ⟨u, hue⟩ : ∃ u, u = iv m us := ⟨_, rfl⟩
    obtain ⟨v, hve⟩ : ∃ v, v = nv vs := ⟨_, rfl⟩
    rw [← hxe] at hxW hg1 hx16
    rw [← hye] at hyN hy0 hg1 hy16
    rw [← hue] at huW hg2 hu16
    rw [← hve] at hvN hv0 hg2 hv16
    have HE : Hid (t = cmpZ (x * (v : Int)) (u * (y : Int))) := by
      show _ = _
      rw [HT.out]
      unfold cmpFF
      rw [hq, hxe, hye, hue, hve]
      rfl
    have p1 := prod_16 hx16 hv16
    have p2 := prod_16 hu16 hy16
    have p3 : (18446744073709551616 : Int) ^ 32 + 18446744073709551616 ^ 32 < 18446744073709551616 ^ 64 := by decide
    have b1 : ((x * (v : Int)).natAbs : Int) < 18446744073709551616 ^ 64 := by omega
    have b2 : ((u * (y : Int)).natAbs : Int) < 18446744073709551616 ^ 64 := by omega
    have b3 := den_16 hy16 hv16
    have HAl := (show Hid _ from (alike_any n m _ _ _ _ _ _ _ _ _ _ _ _ xs ys us vs _ h1 h2 h3 h4 x u y v hxW hyN huW hvN b1 b2 b3))
    clear p1 p2 p3 b1 b2 b3 hxe hye hue hve hg1 hg2 hx16 hy16 hu16 hv16 hy0 hv0 HT hxW hyN huW hvN h1 h2 h3 h4 hr1 hr2 hq
    go_wp2_with fail
    refine Calls.mono HAl.out ?_
    rintro e w5 ⟨pb, pa, pl, pc, ps, qb, qa, ql, qc, qs, da, dl, dc, ds, rfl, ⟨hPn, hPW⟩, ⟨hQn, hQW⟩, -, hb5⟩
    have a1 := balloc w5 (.cells #[.bool pb, .slice pa pl pc] 28)
    have a2 := balloc (w5.alloc (.cells #[.bool pb, .slice pa pl pc] 28)) (.cells #[.bool qb, .slice qa ql qc] 28)
    have a12 := bthen a1 a2
    have hB5 := bthen (bthen hB1 hb5) a12
    have HC := (show Hid _ from icmp_any pb qb _ _ _ _ _ _ _ _ _ (hPn.below a12) (hQn.below a12))
    rw [hPW.cmp hQW, ← HE.out] at HC
    clear a1 a2 a12 HAl HE hPn hPW hQn hQW hb5 hB1 c0 c1 c2 e0 e1 e2
    go_wp2_with fail
    refine Calls.mono HC.out ?_
    rintro e w6 ⟨rfl, hb6⟩
    have hB6 := bthen hB5 hb6
    clear HC hB5 hb6
    go_wp2
    go_ret
    exact ⟨rfl, hB6⟩

set_option maxRecDepth 20000 in
set_option maxHeartbeats 20000000 in
theorem add_ok8 : AddOk8 := by
  intro n m a b c d la ca lb cb lc cc ld cd xs ys us vs w h1 h2 h3 h4
  obtain ⟨T, hT⟩ : ∃ T, T = addT n xs ys m us vs := ⟨_, rfl⟩
  rw [← hT]
  obtain ⟨D, hD⟩ : ∃ D, D = nv ys * nv vs := ⟨_, rfl⟩
  rw [← hD]
  obtain ⟨f, hf⟩ : ∃ f, f = arF n xs ys m us vs T D := ⟨_, rfl⟩
  obtain ⟨X, hX⟩ : ∃ X, X = numF T D := ⟨_, rfl⟩
  obtain ⟨Y, hY⟩ : ∃ Y, Y = denF T D := ⟨_, rfl⟩
  rw [← hf, ← hX, ← hY]
  have HX : Hid (f = arF n xs ys m us vs T D ∧ (X = numF T D ∧ Y = denF T D) ∧ T = addT n xs ys m us vs ∧ D = nv ys * nv vs) := ⟨hf, ⟨hX, hY⟩, hT, hD⟩
  clear hf hX hY hT hD
  obtain ⟨V, hVe⟩ : ∃ V, V = ((((w.alloc (.cells #[.bool n, .slice a la ca, .slice b lb cb] 30)).alloc (.cells #[.bool m, .slice c lc cc, .slice d ld cd] 30)).alloc (.cells #[.bool false, .slice none 0 0, .slice none 0 0] 30)).alloc (.cells #[.bool n, .slice a la ca, .slice b lb cb, .bool m, .slice c lc cc, .slice d ld cd] 30)) := ⟨_, rfl⟩
  have hv1 := balloc w (.cells #[.bool n, .slice a la ca, .slice b lb cb] 30)
  have hv2 := balloc (w.alloc (.cells #[.bool n, .slice a la ca, .slice b lb cb] 30)) (.cells #[.bool m, .slice c lc cc, .slice d ld cd] 30)
  have hv3 := balloc ((w.alloc (.cells #[.bool n, .slice a la ca, .slice b lb cb] 30)).alloc (.cells #[.bool m, .slice c lc cc, .slice d ld cd] 30)) (.cells #[.bool false, .slice none 0 0, .slice none 0 0] 30)
  have hv4 := balloc (((w.alloc (.cells #[.bool n, .slice a la ca, .slice b lb cb] 30)).alloc (.cells #[.bool m, .slice c lc cc, .slice d ld cd] 30)).alloc (.cells #[.bool false, .slice none 0 0, .slice none 0 0] 30)) (.cells #[.bool n, .slice a la ca, .slice b lb cb, .bool m, .slice c lc cc, .slice d ld cd] 30)
  have hV := bthen (bthen (bthen (hv1) hv2) hv3) hv4
  have hA := (Cell3.new w n a b la ca lb cb).below (bthen (bthen (hv2) hv3) hv4)
  have hB := (Cell3.new (w.alloc (.cells #[.bool n, .slice a la ca, .slice b lb cb] 30)) m c d lc cc ld cd).below (bthen (hv3) hv4)
  have hR := (Cell3.new ((w.alloc (.cells #[.bool n, .slice a la ca, .slice b lb cb] 30)).alloc (.cells #[.bool m, .slice c lc cc, .slice d ld cd] 30)) false none none 0 0 0 0).below (hv4)
  have hS : (((((w.alloc (.cells #[.bool n, .slice a la ca, .slice b lb cb] 30)).alloc (.cells #[.bool m, .slice c lc cc, .slice d ld cd] 30)).alloc (.cells #[.bool false, .slice none 0 0, .slice none 0 0] 30)).alloc (.cells #[.bool n, .slice a la ca, .slice b lb cb, .bool m, .slice c lc cc, .slice d ld cd] 30)).cell? ⟨(((w.alloc (.cells #[.bool n, .slice a la ca, .slice b lb cb] 30)).alloc (.cells #[.bool m, .slice c lc cc, .slice d ld cd] 30)).alloc (.cells #[.bool false, .slice none 0 0, .slice none 0 0] 30)).heap.size, 0, none⟩ = some (.bool n) ∧ ((((w.alloc (.cells #[.bool n, .slice a la ca, .slice b lb cb] 30)).alloc (.cells #[.bool m, .slice c lc cc, .slice d ld cd] 30)).alloc (.cells #[.bool false, .slice none 0 0, .slice none 0 0] 30)).alloc (.cells #[.bool n, .slice a la ca, .slice b lb cb, .bool m, .slice c lc cc, .slice d ld cd] 30)).cell? ⟨(((w.alloc (.cells #[.bool n, .slice a la ca, .slice b lb cb] 30)).alloc (.cells #[.bool m, .slice c lc cc, .slice d ld cd] 30)).alloc (.cells #[.bool false, .slice none 0 0, .slice none 0 0] 30)).heap.size, 1, none⟩ = some (.slice a la ca) ∧ ((((w.alloc (.cells #[.bool n, .slice a la ca, .slice b lb cb] 30)).alloc (.cells #[.bool m, .slice c lc cc, .slice d ld cd] 30)).alloc (.cells #[.bool false, .slice none 0 0, .slice none 0 0] 30)).alloc (.cells #[.bool n, .slice a la ca, .slice b lb cb, .bool m, .slice c lc cc, .slice d ld cd] 30)).cell? ⟨(((w.alloc (.cells #[.bool n, .slice a la ca, .slice b lb cb] 30)).alloc (.cells #[.bool m, .slice c lc cc, .slice d ld cd] 30)).alloc (.cells #[.bool false, .slice none 0 0, .slice none 0 0] 30)).heap.size, 2, none⟩ = some (.slice b lb cb) ∧ ((((w.alloc (.cells #[.bool n, .slice a la ca, .slice b lb cb] 30)).alloc (.cells #[.bool m, .slice c lc cc, .slice d ld cd] 30)).alloc (.cells #[.bool false, .slice none 0 0, .slice none 0 0] 30)).alloc (.cells #[.bool n, .slice a la ca, .slice b lb cb, .bool m, .slice c lc cc, .slice d ld cd] 30)).cell? ⟨(((w.alloc (.cells #[.bool n, .slice a la ca, .slice b lb cb] 30)).alloc (.cells #[.bool m, .slice c lc cc, .slice d ld cd] 30)).alloc (.cells #[.bool false, .slice none 0 0, .slice none 0 0] 30)).heap.size, 3, none⟩ = some (.bool m) ∧ ((((w.alloc (.cells #[.bool n, .slice a la ca, .slice b lb cb] 30)).alloc (.cells #[.bool m, .slice c lc cc, .slice d ld cd] 30)).alloc (.cells #[.bool false, .slice none 0 0, .slice none 0 0] 30)).alloc (.cells #[.bool n, .slice a la ca, .slice b lb cb, .bool m, .slice c lc cc, .slice d ld cd] 30)).cell? ⟨(((w.alloc (.cells #[.bool n, .slice a la ca, .slice b lb cb] 30)).alloc (.cells #[.bool m, .slice c lc cc, .slice d ld cd] 30)).alloc (.cells #[.bool false, .slice none 0 0, .slice none 0 0] 30)).heap.size, 4, none⟩ = some (.slice c lc cc) ∧ ((((w.alloc (.cells #[.bool n, .slice a la ca, .slice b lb cb] 30)).alloc (.cells #[.bool m, .slice c lc cc, .slice d ld cd] 30)).alloc (.cells #[.bool false, .slice none 0 0, .slice none 0 0] 30)).alloc (.cells #[.bool n, .slice a la ca, .slice b lb cb, .bool m, .slice c lc cc, .slice d ld cd] 30)).cell? ⟨(((w.alloc (.cells #[.bool n, .slice a la ca, .slice b lb cb] 30)).alloc (.cells #[.bool m, .slice c lc cc, .slice d ld cd] 30)).alloc (.cells #[.bool false, .slice none 0 0, .slice none 0 0] 30)).heap.size, 5, none⟩ = some (.slice d ld cd)) := six_new _ n m a b c d la ca lb cb lc cc ld cd
  simp only [World.size_alloc] at hB hS hR
  rw [← hVe] at hV hA hB hS hR
  have HVe : Hid (V = ((((w.alloc (.cells #[.bool n, .slice a la ca, .slice b lb cb] 30)).alloc (.cells #[.bool m, .slice c lc cc, .slice d ld cd] 30)).alloc (.cells #[.bool false, .slice none 0 0, .slice none 0 0] 30)).alloc (.cells #[.bool n, .slice a la ca, .slice b lb cb, .bool m, .slice c lc cc, .slice d ld cd] 30))) := hVe
  replace h1 := h1.below hV
  replace h2 := h2.below hV
  replace h3 := h3.below hV
  replace h4 := h4.below hV
  clear hv1 hv2 hv3 hv4 hVe
  go_enter Tryz.func40, Tryz.ntmps40
  go_wp2_with fail
  rw [← HVe.out]
  obtain ⟨G, hG⟩ : ∃ G, G = w.heap.size := ⟨_, rfl⟩
  rw [← hG] at hA hB hS hR
  rw [← hG]
  have HG : Hid (G = w.heap.size) := hG
  obtain ⟨c0, c1, c2, -, -, -⟩ := hA
  obtain ⟨e0, e1, e2, -, -, -⟩ := hB
  obtain ⟨s0, s1, s2, s3, s4, s5⟩ := hS
  clear HVe hG
  refine (mayF2_any n m a b c d la ca lb cb lc cc ld cd (G + 1 + 1 + 1) xs ys us vs V (fun wx hbx => rgt_ok8 n _ _ _ _ _ _ _ _ wx (h1.below hbx) (h2.below hbx)) (fun wx hbx => rgt_ok8 m _ _ _ _ _ _ _ _ wx (h3.below hbx) (h4.below hbx)) s0 s1 s2 s3 s4 s5).mono ?_
  rintro e w1 ⟨rfl, hb1⟩
  have hB1 := bthen hV hb1
  replace h1 := h1.below hb1
  replace h2 := h2.below hb1
  replace h3 := h3.below hb1
  replace h4 := h4.below hb1
  replace c0 := bkeep hb1 c0 rfl
  replace c1 := bkeep hb1 c1 rfl
  replace c2 := bkeep hb1 c2 rfl
  replace e0 := bkeep hb1 e0 rfl
  replace e1 := bkeep hb1 e1 rfl
  replace e2 := bkeep hb1 e2 rfl
  replace hR := hR.below hb1
  clear hb1 hV s0 s1 s2 s3 s4 s5
  have hgr : w.heap.size ≤ G + 1 + 1 := by rw [HG.out]; omega
  clear HG
  cases hq : (rightF n xs ys && rightF m us vs) with
  | false =>
    have HF : Hid (ToldF f X Y false [] [] 1) := ToldF.bad (by rw [HX.out.1]; unfold arF; rw [hq]; rfl)
    have hBB := put3_below hB1 hgr (.bool false) (.slice none 0 0) (.slice none 0 0)
    obtain ⟨r0, r1, r2, f0, f1, f2⟩ := hR
    clear h1 h2 h3 h4 HX c0 c1 c2 e0 e1 e2 hB1
    go_wp2_with fail
    exact bodyPost_ret (v := .tuple #[.agg #[.bool false, .slice none 0 0, .slice none 0 0], .int .i64 1]) (by simp [results, Tryz.results40, go_sem, r0, r1, r2]) rfl ⟨false, none, 0, 0, none, 0, 0, [], [], 1, rfl, ⟨Nums.nil _, Nums.nil _⟩, HF.out, hBB⟩
  | true =>
    have hq2 := hq
    rw [Bool.and_eq_true] at hq2
    obtain ⟨hr1, hr2⟩ := hq2
    obtain ⟨hxW, hyN, hy0, hg1, hx16, hy16⟩ := rightF_parts h1.digs h2.digs hr1
    obtain ⟨huW, hvN, hv0, hg2, hu16, hv16⟩ := rightF_parts h3.digs h4.digs hr2
    obtain ⟨x, hxe⟩ : ∃ x, x = iv n xs := ⟨_, rfl⟩
    obtain ⟨y, hye⟩ : ∃ y, y = nv ys := ⟨_, rfl⟩
    obtain ⟨u, hue⟩ : ∃ u, u = iv m us := ⟨_, rfl⟩
    obtain ⟨v, hve⟩ : ∃ v, v = nv vs := ⟨_, rfl⟩
    rw [← hxe] at hxW hg1 hx16
    rw [← hye] at hyN hy0 hg1 hy16
    rw [← hue] at huW hg2 hu16
    rw [← hve] at hvN hv0 hg2 hv16
    have p1 := prod_16 hx16 hv16
    have p2 := prod_16 hu16 hy16
    have p3 : (18446744073709551616 : Int) ^ 32 + 18446744073709551616 ^ 32 < 18446744073709551616 ^ 64 := by decide
    have b1 : ((x * (v : Int)).natAbs : Int) < 18446744073709551616 ^ 64 := by omega
    have b2 : ((u * (y : Int)).natAbs : Int) < 18446744073709551616 ^ 64 := by omega
    have b3 := den_16 hy16 hv16
    have HT : Hid (T = x * (v : Int) + u * (y : Int) ∧ ((x * (v : Int) + u * (y : Int)).natAbs : Int) < 18446744073709551616 ^ 64) := ⟨by rw [HX.out.2.2.1, hxe, hye, hue, hve]; rfl, by omega⟩
    have hD : D = y * v := by rw [HX.out.2.2.2, hye, hve]
    have hD0 : 0 < D := by rw [hD]; exact Nat.mul_pos hy0 hv0
    replace HX : Hid (f = makF T D ∧ X = numF T D ∧ Y = denF T D) := ⟨by rw [HX.out.1]; unfold arF; rw [hq]; rfl, HX.out.2.1.1, HX.out.2.1.2⟩
    have HAl := (show Hid _ from (alike_any n m _ _ _ _ _ _ _ _ _ _ _ _ xs ys us vs _ h1 h2 h3 h4 x u y v hxW hyN huW hvN b1 b2 b3))
    rw [← hD] at HAl
    clear p1 p2 p3 b1 b2 b3 hxe hye hue hve hg1 hg2 hx16 hy16 hu16 hv16 hy0 hv0 hxW hyN huW hvN h1 h2 h3 h4 hr1 hr2 hq hD
    go_wp2_with fail
    refine Calls.mono HAl.out ?_
    rintro e w5 ⟨pb, pa, pl, pc, ps, qb, qa, ql, qc, qs, da, dl, dc, ds, rfl, ⟨hPn, hPW⟩, ⟨hQn, hQW⟩, ⟨hDn, hDN⟩, hb5⟩
    have a1 := balloc w5 (.cells #[.bool pb, .slice pa pl pc] 28)
    have a2 := balloc (w5.alloc (.cells #[.bool pb, .slice pa pl pc] 28)) (.cells #[.bool qb, .slice qa ql qc] 28)
    have a12 := bthen a1 a2
    have hB5 := bthen (bthen hB1 hb5) a12
    replace hR := (hR.below hb5).below a12
    have HAd := (show Hid _ from iadd_any pb qb _ _ _ _ _ _ _ _ _ (hPn.below a12) (hQn.below a12))
    replace hDn := hDn.below a12
    clear a1 a2 a12 HAl hPn hQn hb5 hB1 c0 c1 c2 e0 e1 e2
    go_wp2_with fail
    refine Calls.mono HAd.out ?_
    rintro e w6 ⟨tb, ta, tl, tc, ts, err6, rfl, hTn, hRes, hb6⟩
    have hRe := hRes.got hPW.2.1 hQW.2.1
    rw [hPW.2.2, hQW.2.2] at hRe
    obtain ⟨hTW, rfl⟩ := IsW.res hRe HT.out.2
    rw [← HT.out.1] at hTW
    have a3 := balloc w6 (.cells #[.bool tb, .slice ta tl tc] 28)
    have hB6 := bthen (bthen hB5 hb6) a3
    replace hR := (hR.below hb6).below a3
    have HLo := (show Hid _ from lowest_any tb _ _ _ _ _ _ ts ds T D _ (hTn.below a3) ((hDn.below hb6).below a3) hTW hDN hD0)
    clear HAd hPW hQW hDn hDN hB5 hb6 hRes hRe hTn hTW hD0 HT
    rw [← HX.out.1, ← HX.out.2.1, ← HX.out.2.2] at HLo
    clear a3 HX
    go_wp2_with fail
    refine Calls.mono HLo.out ?_
    rintro e w7 ⟨zb, za, zl, zc, za', zl', zc', zs, zs', err, rfl, ⟨hZ1, hZ2⟩, hTold, hb7⟩
    replace hR := hR.below hb7
    have hBB := put3_below (bthen hB6 hb7) hgr (.bool zb) (.slice za zl zc) (.slice za' zl' zc')
    have k1 := Nums.put3 hR hZ1 (.bool zb) (.slice za zl zc) (.slice za' zl' zc')
    have k2 := Nums.put3 hR hZ2 (.bool zb) (.slice za zl zc) (.slice za' zl' zc')
    have HT : Hid (ToldF f X Y zb zs zs' err) := hTold
    obtain ⟨r0, r1, r2, f0, f1, f2⟩ := hR
    clear HLo hZ1 hZ2 hTold hb7 hB6 hgr
    go_wp2_with fail
    exact bodyPost_ret (v := .tuple #[.agg #[.bool zb, .slice za zl zc, .slice za' zl' zc'], .int .i64 err]) (by simp [results, Tryz.results40, go_sem, r0, r1, r2]) rfl ⟨zb, za, zl, zc, za', zl', zc', zs, zs', err, rfl, ⟨k1, k2⟩, HT.out, hBB⟩

set_option maxRecDepth 20000 in
set_option maxHeartbeats 20000000 in
theorem sub_ok8 : SubOk8 := by
  intro n m a b c d la ca lb cb lc cc ld cd xs ys us vs w h1 h2 h3 h4
  obtain ⟨T, hT⟩ : ∃ T, T = subT n xs ys m us vs := ⟨_, rfl⟩
  rw [← hT]
  obtain ⟨D, hD⟩ : ∃ D, D = nv ys * nv vs := ⟨_, rfl⟩
  rw [← hD]
  obtain ⟨f, hf⟩ : ∃ f, f = arF n xs ys m us vs T D := ⟨_, rfl⟩
  obtain ⟨X, hX⟩ : ∃ X, X = numF T D := ⟨_, rfl⟩
  obtain ⟨Y, hY⟩ : ∃ Y, Y = denF T D := ⟨_, rfl⟩
  rw [← hf, ← hX, ← hY]
  have HX : Hid (f = arF n xs ys m us vs T D ∧ (X = numF T D ∧ Y = denF T D) ∧ T = subT n xs ys m us vs ∧ D = nv ys * nv vs) := ⟨hf, ⟨hX, hY⟩, hT, hD⟩
  clear hf hX hY hT hD
  obtain ⟨V, hVe⟩ : ∃ V, V = ((((w.alloc (.cells #[.bool n, .slice a la ca, .slice b lb cb] 30)).alloc (.cells #[.bool m, .slice c lc cc, .slice d ld cd] 30)).alloc (.cells #[.bool false, .slice none 0 0, .slice none 0 0] 30)).alloc (.cells #[.bool n, .slice a la ca, .slice b lb cb, .bool m, .slice c lc cc, .slice d ld cd] 30)) := ⟨_, rfl⟩
  have hv1 := balloc w (.cells #[.bool n, .slice a la ca, .slice b lb cb] 30)
  have hv2 := balloc (w.alloc (.cells #[.bool n, .slice a la ca, .slice b lb cb] 30)) (.cells #[.bool m, .slice c lc cc, .slice d ld cd] 30)
  have hv3 := balloc ((w.alloc (.cells #[.bool n, .slice a la ca, .slice b lb cb] 30)).alloc (.cells #[.bool m, .slice c lc cc, .slice d ld cd] 30)) (.cells #[.bool false, .slice none 0 0, .slice none 0 0] 30)
  have hv4 := balloc (((w.alloc (.cells #[.bool n, .slice a la ca, .slice b lb cb] 30)).alloc (.cells #[.bool m, .slice c lc cc, .slice d ld cd] 30)).alloc (.cells #[.bool false, .slice none 0 0, .slice none 0 0] 30)) (.cells #[.bool n, .slice a la ca, .slice b lb cb, .bool m, .slice c lc cc, .slice d ld cd] 30)
  have hV := bthen (bthen (bthen (hv1) hv2) hv3) hv4
  have hA := (Cell3.new w n a b la ca lb cb).below (bthen (bthen (hv2) hv3) hv4)
  have hB := (Cell3.new (w.alloc (.cells #[.bool n, .slice a la ca, .slice b lb cb] 30)) m c d lc cc ld cd).below (bthen (hv3) hv4)
  have hR := (Cell3.new ((w.alloc (.cells #[.bool n, .slice a la ca, .slice b lb cb] 30)).alloc (.cells #[.bool m, .slice c lc cc, .slice d ld cd] 30)) false none none 0 0 0 0).below (hv4)
  have hS : (((((w.alloc (.cells #[.bool n, .slice a la ca, .slice b lb cb] 30)).alloc (.cells #[.bool m, .slice c lc cc, .slice d ld cd] 30)).alloc (.cells #[.bool false, .slice none 0 0, .slice none 0 0] 30)).alloc (.cells #[.bool n, .slice a la ca, .slice b lb cb, .bool m, .slice c lc cc, .slice d ld cd] 30)).cell? ⟨(((w.alloc (.cells #[.bool n, .slice a la ca, .slice b lb cb] 30)).alloc (.cells #[.bool m, .slice c lc cc, .slice d ld cd] 30)).alloc (.cells #[.bool false, .slice none 0 0, .slice none 0 0] 30)).heap.size, 0, none⟩ = some (.bool n) ∧ ((((w.alloc (.cells #[.bool n, .slice a la ca, .slice b lb cb] 30)).alloc (.cells #[.bool m, .slice c lc cc, .slice d ld cd] 30)).alloc (.cells #[.bool false, .slice none 0 0, .slice none 0 0] 30)).alloc (.cells #[.bool n, .slice a la ca, .slice b lb cb, .bool m, .slice c lc cc, .slice d ld cd] 30)).cell? ⟨(((w.alloc (.cells #[.bool n, .slice a la ca, .slice b lb cb] 30)).alloc (.cells #[.bool m, .slice c lc cc, .slice d ld cd] 30)).alloc (.cells #[.bool false, .slice none 0 0, .slice none 0 0] 30)).heap.size, 1, none⟩ = some (.slice a la ca) ∧ ((((w.alloc (.cells #[.bool n, .slice a la ca, .slice b lb cb] 30)).alloc (.cells #[.bool m, .slice c lc cc, .slice d ld cd] 30)).alloc (.cells #[.bool false, .slice none 0 0, .slice none 0 0] 30)).alloc (.cells #[.bool n, .slice a la ca, .slice b lb cb, .bool m, .slice c lc cc, .slice d ld cd] 30)).cell? ⟨(((w.alloc (.cells #[.bool n, .slice a la ca, .slice b lb cb] 30)).alloc (.cells #[.bool m, .slice c lc cc, .slice d ld cd] 30)).alloc (.cells #[.bool false, .slice none 0 0, .slice none 0 0] 30)).heap.size, 2, none⟩ = some (.slice b lb cb) ∧ ((((w.alloc (.cells #[.bool n, .slice a la ca, .slice b lb cb] 30)).alloc (.cells #[.bool m, .slice c lc cc, .slice d ld cd] 30)).alloc (.cells #[.bool false, .slice none 0 0, .slice none 0 0] 30)).alloc (.cells #[.bool n, .slice a la ca, .slice b lb cb, .bool m, .slice c lc cc, .slice d ld cd] 30)).cell? ⟨(((w.alloc (.cells #[.bool n, .slice a la ca, .slice b lb cb] 30)).alloc (.cells #[.bool m, .slice c lc cc, .slice d ld cd] 30)).alloc (.cells #[.bool false, .slice none 0 0, .slice none 0 0] 30)).heap.size, 3, none⟩ = some (.bool m) ∧ ((((w.alloc (.cells #[.bool n, .slice a la ca, .slice b lb cb] 30)).alloc (.cells #[.bool m, .slice c lc cc, .slice d ld cd] 30)).alloc (.cells #[.bool false, .slice none 0 0, .slice none 0 0] 30)).alloc (.cells #[.bool n, .slice a la ca, .slice b lb cb, .bool m, .slice c lc cc, .slice d ld cd] 30)).cell? ⟨(((w.alloc (.cells #[.bool n, .slice a la ca, .slice b lb cb] 30)).alloc (.cells #[.bool m, .slice c lc cc, .slice d ld cd] 30)).alloc (.cells #[.bool false, .slice none 0 0, .slice none 0 0] 30)).heap.size, 4, none⟩ = some (.slice c lc cc) ∧ ((((w.alloc (.cells #[.bool n, .slice a la ca, .slice b lb cb] 30)).alloc (.cells #[.bool m, .slice c lc cc, .slice d ld cd] 30)).alloc (.cells #[.bool false, .slice none 0 0, .slice none 0 0] 30)).alloc (.cells #[.bool n, .slice a la ca, .slice b lb cb, .bool m, .slice c lc cc, .slice d ld cd] 30)).cell? ⟨(((w.alloc (.cells #[.bool n, .slice a la ca, .slice b lb cb] 30)).alloc (.cells #[.bool m, .slice c lc cc, .slice d ld cd] 30)).alloc (.cells #[.bool false, .slice none 0 0, .slice none 0 0] 30)).heap.size, 5, none⟩ = some (.slice d ld cd)) := six_new _ n m a b c d la ca lb cb lc cc ld cd
  simp only [World.size_alloc] at hB hS hR
  rw [← hVe] at hV hA hB hS hR
  have HVe : Hid (V = ((((w.alloc (.cells #[.bool n, .slice a la ca, .slice b lb cb] 30)).alloc (.cells #[.bool m, .slice c lc cc, .slice d ld cd] 30)).alloc (.cells #[.bool false, .slice none 0 0, .slice none 0 0] 30)).alloc (.cells #[.bool n, .slice a la ca, .slice b lb cb, .bool m, .slice c lc cc, .slice d ld cd] 30))) := hVe
  replace h1 := h1.below hV
  replace h2 := h2.below hV
  replace h3 := h3.below hV
  replace h4 := h4.below hV
  clear hv1 hv2 hv3 hv4 hVe
  go_enter Tryz.func15, Tryz.ntmps15
  go_wp2_with fail
  rw [← HVe.out]
  obtain ⟨G, hG⟩ : ∃ G, G = w.heap.size := ⟨_, rfl⟩
  rw [← hG] at hA hB hS hR
  rw [← hG]
  have HG : Hid (G = w.heap.size) := hG
  obtain ⟨c0, c1, c2, -, -, -⟩ := hA
  obtain ⟨e0, e1, e2, -, -, -⟩ := hB
  obtain ⟨s0, s1, s2, s3, s4, s5⟩ := hS
  clear HVe hG
  refine (mayF2_any n m a b c d la ca lb cb lc cc ld cd (G + 1 + 1 + 1) xs ys us vs V (fun wx hbx => rgt_ok8 n _ _ _ _ _ _ _ _ wx (h1.below hbx) (h2.below hbx)) (fun wx hbx => rgt_ok8 m _ _ _ _ _ _ _ _ wx (h3.below hbx) (h4.below hbx)) s0 s1 s2 s3 s4 s5).mono ?_
  rintro e w1 ⟨rfl, hb1⟩
  have hB1 := bthen hV hb1
  replace h1 := h1.below hb1
  replace h2 := h2.below hb1
  replace h3 := h3.below hb1
  replace h4 := h4.below hb1
  replace c0 := bkeep hb1 c0 rfl
  replace c1 := bkeep hb1 c1 rfl
  replace c2 := bkeep hb1 c2 rfl
  replace e0 := bkeep hb1 e0 rfl
  replace e1 := bkeep hb1 e1 rfl
  replace e2 := bkeep hb1 e2 rfl
  replace hR := hR.below hb1
  clear hb1 hV s0 s1 s2 s3 s4 s5
  have hgr : w.heap.size ≤ G + 1 + 1 := by rw [HG.out]; omega
  clear HG
  cases hq : (rightF n xs ys && rightF m us vs) with
  | false =>
    have HF : Hid (ToldF f X Y false [] [] 1) := ToldF.bad (by rw [HX.out.1]; unfold arF; rw [hq]; rfl)
    have hBB := put3_below hB1 hgr (.bool false) (.slice none 0 0) (.slice none 0 0)
    obtain ⟨r0, r1, r2, f0, f1, f2⟩ := hR
    clear h1 h2 h3 h4 HX c0 c1 c2 e0 e1 e2 hB1
    go_wp2_with fail
    exact bodyPost_ret (v := .tuple #[.agg #[.bool false, .slice none 0 0, .slice none 0 0], .int .i64 1]) (by simp [results, Tryz.results15, go_sem, r0, r1, r2]) rfl ⟨false, none, 0, 0, none, 0, 0, [], [], 1, rfl, ⟨Nums.nil _, Nums.nil _⟩, HF.out, hBB⟩
  | true =>
    have hq2 := hq
    rw [Bool.and_eq_true] at hq2
    obtain ⟨hr1, hr2⟩ := hq2
    obtain ⟨hxW, hyN, hy0, hg1, hx16, hy16⟩ := rightF_parts h1.digs h2.digs hr1
    obtain ⟨huW, hvN, hv0, hg2, hu16, hv16⟩ := rightF_parts h3.digs h4.digs hr2
    obtain ⟨x, hxe⟩ : ∃ x, x = iv n xs := ⟨_, rfl⟩
    obtain ⟨y, hye⟩ : ∃ y, y = nv ys := ⟨_, rfl⟩
    obtain ⟨u, hue⟩ : ∃ u, u = iv m us := ⟨_, rfl⟩
    obtain ⟨v, hve⟩ : ∃ v, v = nv vs := ⟨_, rfl⟩
    rw [← hxe] at hxW hg1 hx16
    rw [← hye] at hyN hy0 hg1 hy16
    rw [← hue] at huW hg2 hu16
    rw [← hve] at hvN hv0 hg2 hv16
    have p1 := prod_16 hx16 hv16
    have p2 := prod_16 hu16 hy16
    have p3 : (18446744073709551616 : Int) ^ 32 + 18446744073709551616 ^ 32 < 18446744073709551616 ^ 64 := by decide
    have b1 : ((x * (v : Int)).natAbs : Int) < 18446744073709551616 ^ 64 := by omega
    have b2 : ((u * (y : Int)).natAbs : Int) < 18446744073709551616 ^ 64 := by omega
    have b3 := den_16 hy16 hv16
    have HT : Hid (T = x * (v : Int) - u * (y : Int) ∧ ((x * (v : Int) - u * (y : Int)).natAbs : Int) < 18446744073709551616 ^ 64) := ⟨by rw [HX.out.2.2.1, hxe, hye, hue, hve]; rfl, by omega⟩
    have hD : D = y * v := by rw [HX.out.2.2.2, hye, hve]
    have hD0 : 0 < D := by rw [hD]; exact Nat.mul_pos hy0 hv0
    replace HX : Hid (f = makF T D ∧ X = numF T D ∧ Y = denF T D) := ⟨by rw [HX.out.1]; unfold arF; rw [hq]; rfl, HX.out.2.1.1, HX.out.2.1.2⟩
    have HAl := (show Hid _ from (alike_any n m _ _ _ _ _ _ _ _ _ _ _ _ xs ys us vs _ h1 h2 h3 h4 x u y v hxW hyN huW hvN b1 b2 b3))
    rw [← hD] at HAl
    clear p1 p2 p3 b1 b2 b3 hxe hye hue hve hg1 hg2 hx16 hy16 hu16 hv16 hy0 hv0 hxW hyN huW hvN h1 h2 h3 h4 hr1 hr2 hq hD
    go_wp2_with fail
    refine Calls.mono HAl.out ?_
    rintro e w5 ⟨pb, pa, pl, pc, ps, qb, qa, ql, qc, qs, da, dl, dc, ds, rfl, ⟨hPn, hPW⟩, ⟨hQn, hQW⟩, ⟨hDn, hDN⟩, hb5⟩
    have a1 := balloc w5 (.cells #[.bool pb, .slice pa pl pc] 28)
    have a2 := balloc (w5.alloc (.cells #[.bool pb, .slice pa pl pc] 28)) (.cells #[.bool qb, .slice qa ql qc] 28)
    have a12 := bthen a1 a2
    have hB5 := bthen (bthen hB1 hb5) a12
    replace hR := (hR.below hb5).below a12
    have HAd := (show Hid _ from isub_any pb qb _ _ _ _ _ _ _ _ _ (hPn.below a12) (hQn.below a12))
    replace hDn := hDn.below a12
    clear a1 a2 a12 HAl hPn hQn hb5 hB1 c0 c1 c2 e0 e1 e2
    go_wp2_with fail
    refine Calls.mono HAd.out ?_
    rintro e w6 ⟨tb, ta, tl, tc, ts, err6, rfl, hTn, hRes, hb6⟩
    have hRe := hRes.got hPW.2.1 hQW.2.1
    rw [hPW.2.2, hQW.2.2] at hRe
    obtain ⟨hTW, rfl⟩ := IsW.res hRe HT.out.2
    rw [← HT.out.1] at hTW
    have a3 := balloc w6 (.cells #[.bool tb, .slice ta tl tc] 28)
    have hB6 := bthen (bthen hB5 hb6) a3
    replace hR := (hR.below hb6).below a3
    have HLo := (show Hid _ from lowest_any tb _ _ _ _ _ _ ts ds T D _ (hTn.below a3) ((hDn.below hb6).below a3) hTW hDN hD0)
    clear HAd hPW hQW hDn hDN hB5 hb6 hRes hRe hTn hTW hD0 HT
    rw [← HX.out.1, ← HX.out.2.1, ← HX.out.2.2] at HLo
    clear a3 HX
    go_wp2_with fail
    refine Calls.mono HLo.out ?_
    rintro e w7 ⟨zb, za, zl, zc, za', zl', zc', zs, zs', err, rfl, ⟨hZ1, hZ2⟩, hTold, hb7⟩
    replace hR := hR.below hb7
    have hBB := put3_below (bthen hB6 hb7) hgr (.bool zb) (.slice za zl zc) (.slice za' zl' zc')
    have k1 := Nums.put3 hR hZ1 (.bool zb) (.slice za zl zc) (.slice za' zl' zc')
    have k2 := Nums.put3 hR hZ2 (.bool zb) (.slice za zl zc) (.slice za' zl' zc')
    have HT : Hid (ToldF f X Y zb zs zs' err) := hTold
    obtain ⟨r0, r1, r2, f0, f1, f2⟩ := hR
    clear HLo hZ1 hZ2 hTold hb7 hB6 hgr
    go_wp2_with fail
    exact bodyPost_ret (v := .tuple #[.agg #[.bool zb, .slice za zl zc, .slice za' zl' zc'], .int .i64 err]) (by simp [results, Tryz.results15, go_sem, r0, r1, r2]) rfl ⟨zb, za, zl, zc, za', zl', zc', zs, zs', err, rfl, ⟨k1, k2⟩, HT.out, hBB⟩

end Go.Proofs.YtchmlfjjgehbkaaGreat

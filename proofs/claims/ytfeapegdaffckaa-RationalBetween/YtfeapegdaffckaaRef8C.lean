/-
  The contract of the document's over.
-/
import Derived.Test.YtfeapegdaffckaaR8Mem
import Derived.Test.YtfeapegdaffckaaWAtA
import Derived.Test.YtfeapegdaffckaaModR
import Derived.Deep.RegionWith
import Derived.Deep.RegionHeld3
import Derived.BigRegion
namespace Go.Proofs.Ytfeapegdaffckaa
open Go.RowKit

set_option maxRecDepth 20000 in
set_option maxHeartbeats 20000000 in
theorem r8over_any (n m : Bool) (a b c d : Option Addr) (la ca lb cb lc cc ld cd : Nat) (xs vs : List Int) (x : Int) (v : Nat) (w : World) (h1 : Nums w a la ca xs) (h4 : Nums w d ld cd vs) (hx : IsW n xs x) (hv : IsN vs v) (hb64 : ((x * (v : Int)).natAbs : Int) < 18446744073709551616 ^ 64) :
    Calls Try.prog 50 #[.agg #[.bool n, .slice a la ca, .slice b lb cb], .agg #[.bool m, .slice c lc cc, .slice d ld cd]] w fun e w' => TellsW (x * (v : Int)) w e w' := by
  obtain ⟨X, hX⟩ : ∃ X, X = x * (v : Int) := ⟨_, rfl⟩
  rw [← hX] at hb64 ⊢
  have HX : Hid (X = x * (v : Int) ∧ (X.natAbs : Int) < 18446744073709551616 ^ 64) := ⟨hX, hb64⟩
  clear hX hb64
  obtain ⟨V, hVe⟩ : ∃ V, V = ((w.alloc (.cells #[.bool n, .slice a la ca, .slice b lb cb] 27)).alloc (.cells #[.bool m, .slice c lc cc, .slice d ld cd] 27)).alloc (.cells #[.bool false, .slice none 0 0] 25) := ⟨_, rfl⟩
  have hv1 := balloc w (.cells #[.bool n, .slice a la ca, .slice b lb cb] 27)
  have hv2 := balloc (w.alloc (.cells #[.bool n, .slice a la ca, .slice b lb cb] 27)) (.cells #[.bool m, .slice c lc cc, .slice d ld cd] 27)
  have hv3 := balloc ((w.alloc (.cells #[.bool n, .slice a la ca, .slice b lb cb] 27)).alloc (.cells #[.bool m, .slice c lc cc, .slice d ld cd] 27)) (.cells #[.bool false, .slice none 0 0] 25)
  have hV := bthen (bthen hv1 hv2) hv3
  have hA := (Cell3.new w n a b la ca lb cb).below (bthen hv2 hv3)
  have hB := (Cell3.new (w.alloc (.cells #[.bool n, .slice a la ca, .slice b lb cb] 27)) m c d lc cc ld cd).below hv3
  have hR := Cell2.new ((w.alloc (.cells #[.bool n, .slice a la ca, .slice b lb cb] 27)).alloc (.cells #[.bool m, .slice c lc cc, .slice d ld cd] 27)) false none 0 0
  simp only [World.size_alloc] at hB hR
  rw [← hVe] at hV hA hB hR
  have HVe : Hid (V = ((w.alloc (.cells #[.bool n, .slice a la ca, .slice b lb cb] 27)).alloc (.cells #[.bool m, .slice c lc cc, .slice d ld cd] 27)).alloc (.cells #[.bool false, .slice none 0 0] 25)) := hVe
  replace h1 := h1.below hV
  replace h4 := h4.below hV
  clear hv1 hv2 hv3 hVe
  go_enter Try.func50, Try.ntmps50
  go_wp2_with fail
  rw [← HVe.out]
  obtain ⟨G, hG⟩ : ∃ G, G = w.heap.size := ⟨_, rfl⟩
  rw [← hG] at hA hB hR
  rw [← hG]
  have HG : Hid (G = w.heap.size) := hG
  obtain ⟨c0, c1, -, -, -, -⟩ := hA
  have e2 := hB.c2
  have hGV : G + 1 < V.heap.size := hB.lt
  clear hB HVe hG
  have HRB : Hid (Below V.heap.size V V) := Below.refl _ _
  have HFr : Hid (∀ wx : World, Below V.heap.size V wx → Calls Try.prog 36 #[.bool false, .slice d ld cd] wx fun e w' => ∃ yb ya yl yc, e = .returned (.agg #[.bool yb, .slice ya yl yc]) ∧ Hid (WAt w' yb ya yl yc (v : Int) ∧ Below V.heap.size V w') ∧ (w'.cell? ⟨G, 0, none⟩ = some (.bool n) ∧ w'.cell? ⟨G, 1, none⟩ = some (.slice a la ca) ∧ w'.cell? ⟨G + 1, 2, none⟩ = some (.slice d ld cd) ∧ G + 1 < w'.heap.size) ∧ (∀ b o, b < wx.heap.size → w'.cell? ⟨b, o, none⟩ = wx.cell? ⟨b, o, none⟩) ∧ (∀ b o, b < wx.heap.size → w'.frozen? ⟨b, o, none⟩ = wx.frozen? ⟨b, o, none⟩) ∧ (∀ b, b < wx.heap.size → b < w'.heap.size)) := by
    intro wx hbx
    refine (refFrom_any false _ _ _ _ wx (h4.below hbx)).mono ?_
    rintro e w' ⟨a', n', c', rfl, hn, hb⟩
    have hb' := bthen hbx hb
    have hw := IsW.from hv false
    simp only [Bool.false_eq_true, if_false] at hw
    exact ⟨_, _, _, _, rfl, ⟨⟨_, hn, hw⟩, hb'⟩, ⟨bkeep hb' c0 rfl, bkeep hb' c1 rfl, bkeep hb' e2 rfl, Nat.lt_of_lt_of_le hGV hb'.size⟩, bfactsD hb⟩
  have HMu : Hid (∀ (wx : World) yb ya yl yc, WAt wx yb ya yl yc (v : Int) → Below V.heap.size V wx → Calls Try.prog 57 #[.agg #[.bool n, .slice a la ca], .agg #[.bool yb, .slice ya yl yc]] wx fun e w' => ∃ mp ma mn mc, e = .returned (.tuple #[.agg #[.bool mp, .slice ma mn mc], .int .i64 0]) ∧ Hid (WAt w' mp ma mn mc X ∧ Below V.heap.size V w') ∧ (w'.cell? ⟨G, 0, none⟩ = some (.bool n) ∧ w'.cell? ⟨G, 1, none⟩ = some (.slice a la ca) ∧ w'.cell? ⟨G + 1, 2, none⟩ = some (.slice d ld cd) ∧ G + 1 < w'.heap.size) ∧ (∀ b o, b < wx.heap.size → w'.cell? ⟨b, o, none⟩ = wx.cell? ⟨b, o, none⟩) ∧ (∀ b o, b < wx.heap.size → w'.frozen? ⟨b, o, none⟩ = wx.frozen? ⟨b, o, none⟩) ∧ (∀ b, b < wx.heap.size → b < w'.heap.size)) := by
    rintro wx yb ya yl yc ⟨ys, hy, hyW⟩ hbx
    refine (refIMul_any n yb _ _ _ _ _ _ _ _ wx (h1.below hbx) hy).mono ?_
    rintro e w' ⟨q, a', n', c', ls, err, rfl, hn, hRes, hb⟩
    have hb' := bthen hbx hb
    have := hRes.got hx.2.1 hyW.2.1
    rw [hx.2.2, hyW.2.2, ← HX.out.1] at this
    obtain ⟨h3, rfl⟩ := IsW.res this HX.out.2
    exact ⟨_, _, _, _, rfl, ⟨⟨_, hn, h3⟩, hb'⟩, ⟨bkeep hb' c0 rfl, bkeep hb' c1 rfl, bkeep hb' e2 rfl, Nat.lt_of_lt_of_le hGV hb'.size⟩, bfactsD hb⟩
  go_cut [5] (fun pv wx => ∃ g5, pv = .pointer (some ⟨g5, 0, none⟩) ∧ Fac wx g5 X ∧ Below V.heap.size V wx)
  case first =>
    clear HX hV hR h1 h4 hx hv HG
    have ne0 := World.new_ne V ⟨G, 0, none⟩ c0
    have ne1 := World.new_ne V ⟨G + 1, 2, none⟩ e2
    go_region_held3 (fun w' => w'.cell? ⟨G, 0, none⟩ = some (.bool n) ∧ w'.cell? ⟨G, 1, none⟩ = some (.slice a la ca) ∧ w'.cell? ⟨G + 1, 2, none⟩ = some (.slice d ld cd)) (first | go_keep | exact ⟨o0, o1, o2⟩ | exact ⟨n0, n1, n2⟩ | exact ⟨(put2_other (by omega) _ _).trans o0, (put2_other (by omega) _ _).trans o1, (put2_other (by omega) _ _).trans o2⟩)
      (first
      | (go_at_call 36; with_reducible refine Calls.mono (HFr.out _ ?_) ?_; (focus (repeat (first | exact HRB.out | refine bdrawD ?_ | refine bgrowD ?_ _))); rintro e w3 ⟨yb, ya, yl, yc, rfl, hA, ⟨n0, n1, n2, n3⟩, hc3, hf3, hs3⟩; have ne3 := World.new_ne w3 ⟨G, 0, none⟩ n0; have ne4 := World.new_ne w3 ⟨G + 1, 2, none⟩ n2; (try have k30 := hs3 (V.heap.size) (by first | omega | (simp; done) | (simp; omega))); (try have m300 := hc3 (V.heap.size) 0 (by first | omega | (simp; done) | (simp; omega))); (try have f300 := hf3 (V.heap.size) 0 (by first | omega | (simp; done) | (simp; omega))); (try have m301 := hc3 (V.heap.size) 1 (by first | omega | (simp; done) | (simp; omega))); (try have f301 := hf3 (V.heap.size) 1 (by first | omega | (simp; done) | (simp; omega))); clear hc3 hf3 hs3)
      | (go_at_call 57; with_reducible refine Calls.mono (HMu.out _ yb ya yl yc ?_ ?_) ?_; (focus (repeat (first | exact hA.out.1 | refine WAt.drew ?_ | refine WAt.grow ?_ _))); (focus (repeat (first | exact hA.out.2 | refine bdrawD ?_ | refine bgrowD ?_ _))); rintro e w6 ⟨mp, ma, mn, mc, rfl, hM, ⟨o0, o1, o2, o3⟩, hc6, hf6, hs6⟩; have ne6 := World.new_ne w6 ⟨G, 0, none⟩ o0; have ne7 := World.new_ne w6 ⟨G + 1, 2, none⟩ o2; (try have k60 := hs6 (V.heap.size) (by first | omega | (simp; done) | (simp; omega))); (try have m600 := hc6 (V.heap.size) 0 (by first | omega | (simp; done) | (simp; omega))); (try have f600 := hf6 (V.heap.size) 0 (by first | omega | (simp; done) | (simp; omega))); (try have m601 := hc6 (V.heap.size) 1 (by first | omega | (simp; done) | (simp; omega))); (try have f601 := hf6 (V.heap.size) 1 (by first | omega | (simp; done) | (simp; omega))); (try have k61 := hs6 (w3.heap.size) (by first | omega | (simp; done) | (simp; omega))); (try have m610 := hc6 (w3.heap.size) 0 (by first | omega | (simp; done) | (simp; omega))); (try have f610 := hf6 (w3.heap.size) 0 (by first | omega | (simp; done) | (simp; omega))); (try have m611 := hc6 (w3.heap.size) 1 (by first | omega | (simp; done) | (simp; omega))); (try have f611 := hf6 (w3.heap.size) 1 (by first | omega | (simp; done) | (simp; omega))); clear hc6 hf6 hs6))
    all_goals
      have hz6 := hM.out.2.size
      have hz3 := hA.out.2.size
      clear HFr HMu HRB
      go_wp2_with fail
      go_meet
      case rel =>
        obtain ⟨⟨ms, hMs, hMW⟩, hbM⟩ := hM.out
        first
          | exact ⟨_, rfl, fac_alloc hMs hMW.2.1 hMW.2.2, bgrowD hbM _⟩
          | (refine ⟨_, rfl, fac_put (q := false) (sa := none) (sn := 0) (sc := 0) ?_ ?_ ?_ ?_ hMs hMW.2.1 hMW.2.2, (hbM.setCell ?_ _).setCell ?_ _⟩
             · go_simp
             · go_simp
             · go_simp
             · go_simp
             · first | (simp; done) | (simp; omega)
             · first | (simp; done) | (simp; omega))
  case rest =>
    obtain ⟨g5, rfl, F5, hbc⟩ := hcut
    have hB5 := bthen hV hbc
    obtain ⟨d0, d1, f0, f1⟩ := hR.below hbc
    clear HFr HMu HRB HX c0 c1 e2 h1 h4 hx hv hbc hV hR hGV
    obtain ⟨zp, za, zn, zc, zs, ⟨e0, e1⟩, -, hZn, hZr, hZv⟩ := F5
    have HZ : Hid (IsW zp zs X) := ⟨hZn.digs, hZr, hZv⟩
    have hn2 := hZn.put2 d0 d1 (.bool zp) (.slice za zn zc)
    have hBB := put2_below7 hB5 (g := G + 1 + 1) (by rw [HG.out]; omega) (.bool zp) (.slice za zn zc)
    clear hZn hZr hZv hB5 HG
    go_wp2_with fail
    exact bodyPost_ret (v := .agg #[.bool zp, .slice za zn zc]) (by simp [results, Try.results50, go_sem, d0, d1]) rfl ⟨zp, za, zn, zc, zs, rfl, hn2, HZ.out, hBB⟩
end Go.Proofs.Ytfeapegdaffckaa

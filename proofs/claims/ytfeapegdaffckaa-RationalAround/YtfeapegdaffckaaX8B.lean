/-
  Contracts of package rational's Right and Make.
-/
import Derived.Test.YtfeapegdaffckaaX8A
import Derived.Test.YtfeapegdaffckaaP8LawsO
import Derived.Deep.RegionWith
import Derived.Deep.RegionHeld3
import Derived.BigRegion
namespace Go.Proofs.Ytfeapegdaffckaa
open Go.RowKit

set_option maxRecDepth 20000 in
set_option maxHeartbeats 6400000 in
theorem mak_ok8 : MakOk8 := by
  intro n a b la ca lb cb xs ys w h h'
  obtain ⟨f, hf⟩ : ∃ f, f = makeFF n xs ys := ⟨_, rfl⟩
  obtain ⟨X, hX⟩ : ∃ X, X = numF (iv n xs) (nv ys) := ⟨_, rfl⟩
  obtain ⟨Y, hY⟩ : ∃ Y, Y = denF (iv n xs) (nv ys) := ⟨_, rfl⟩
  rw [← hf, ← hX, ← hY]
  have HXY : Hid (f = makeFF n xs ys ∧ X = numF (iv n xs) (nv ys) ∧ Y = denF (iv n xs) (nv ys)) := ⟨hf, hX, hY⟩
  clear hf hX hY
  obtain ⟨V, hVe⟩ : ∃ V, V = (w.alloc (.cells #[.bool n, .slice a la ca] 25)).alloc (.cells #[.bool false, .slice none 0 0, .slice none 0 0] 27) := ⟨_, rfl⟩
  have hv1 := balloc w (.cells #[.bool n, .slice a la ca] 25)
  have hv2 := balloc (w.alloc (.cells #[.bool n, .slice a la ca] 25)) (.cells #[.bool false, .slice none 0 0, .slice none 0 0] 27)
  have hV := bthen hv1 hv2
  have hA := (Cell2.new w n a la ca).below hv2
  have hR := Cell3.new (w.alloc (.cells #[.bool n, .slice a la ca] 25)) false none none 0 0 0 0
  rw [World.size_alloc] at hR
  rw [← hVe] at hV hA hR
  have hGV := hA.lt
  obtain ⟨c0, c1, -, -⟩ := hA
  replace h := h.below hV
  replace h' := h'.below hV
  have hm2 := h'.hmax
  have hc2 := h'.hcap
  unfold maxLen at hm2
  have HL : Hid (ys.length = lb) := h'.hlen
  have HVe : Hid (V = (w.alloc (.cells #[.bool n, .slice a la ca] 25)).alloc (.cells #[.bool false, .slice none 0 0, .slice none 0 0] 27)) := hVe
  clear hVe hv1 hv2
  go_enter Try.func10, Try.ntmps10
  go_wp2_with fail
  rw [← HVe.out]
  obtain ⟨G, hG⟩ : ∃ G, G = w.heap.size := ⟨_, rfl⟩
  rw [← hG] at hR c0 c1 hGV
  rw [← hG]
  have HG : Hid (G = w.heap.size) := hG
  clear hG HVe
  obtain ⟨Q, hQ⟩ : ∃ Q, Q = (rightI n xs && rightI false ys) := ⟨_, rfl⟩
  have HQ : Hid (Q = (rightI n xs && rightI false ys)) := hQ
  clear hQ
  have HRB : Hid (Below V.heap.size V V) := Below.refl _ _
  have HWo : Hid (∀ wx : World, Below V.heap.size V wx → Calls Try.prog 30 #[.slice b lb cb] wx fun e w' => e = .returned (.agg #[.bool false, .slice b lb cb]) ∧ Hid (Below V.heap.size V w') ∧ (w'.cell? ⟨G, 0, none⟩ = some (.bool n) ∧ w'.cell? ⟨G, 1, none⟩ = some (.slice a la ca)) ∧ G < w'.heap.size) := by
    intro wx hbx
    refine (wholeOf_any b lb cb wx).mono ?_
    rintro e w' ⟨rfl, hb⟩
    have hb' := bthen hbx hb
    exact ⟨rfl, hb', ⟨bkeep hb' c0 rfl, bkeep hb' c1 rfl⟩, Nat.lt_of_lt_of_le hGV hb'.size⟩
  have HMa : Hid (∀ (wx : World) (g : Nat), Below V.heap.size V wx → wx.cell? ⟨g, 0, none⟩ = some (.bool n) → wx.cell? ⟨g, 1, none⟩ = some (.slice a la ca) → wx.cell? ⟨g, 2, none⟩ = some (.bool false) → wx.cell? ⟨g, 3, none⟩ = some (.slice b lb cb) → Calls Try.prog 28 #[.func (.func 29) #[] #[], .slice (some ⟨g, 0, none⟩) 2 2] wx fun e w' => e = .returned (.bool Q) ∧ Hid (Below V.heap.size V w') ∧ (w'.cell? ⟨G, 0, none⟩ = some (.bool n) ∧ w'.cell? ⟨G, 1, none⟩ = some (.slice a la ca)) ∧ G < w'.heap.size) := by
    intro wx g hbx g0 g1 g2 g3
    refine (may2_any n false a b la ca lb cb g xs ys wx (h.below hbx) (h'.below hbx) g0 g1 g2 g3).mono ?_
    rintro e w' ⟨rfl, hb⟩
    have hb' := bthen hbx hb
    exact ⟨ret_bool HQ.out.symm, hb', ⟨bkeep hb' c0 rfl, bkeep hb' c1 rfl⟩, Nat.lt_of_lt_of_le hGV hb'.size⟩
  go_cut [11] (fun qv wx => qv = .bool (!Q) ∧ Below V.heap.size V wx)
  case first =>
    clear h h' hV HQ HG HXY HL hR
    have ne0 := World.new_ne V ⟨G, 0, none⟩ c0
    go_region_held3 (fun w' => w'.cell? ⟨G, 0, none⟩ = some (.bool n) ∧ w'.cell? ⟨G, 1, none⟩ = some (.slice a la ca)) (first | go_keep | exact n6 | exact o6)
      (first
      | (go_at_call 30; with_reducible refine Calls.mono (HWo.out _ ?_) ?_; (focus (repeat (first | exact HRB.out | refine bdrawD ?_ | refine bgrowD ?_ _))); rintro e w3 ⟨rfl, hA, n6, n7⟩; have ne3 := World.new_ne w3 ⟨G, 0, none⟩ n6.1)
      | (go_at_call 28; with_reducible refine Calls.mono (HMa.out _ _ ?_ ?_ ?_ ?_ ?_) ?_; (focus (repeat (first | exact hA.out | refine bdrawD ?_ | refine bgrowD ?_ _))); (go_simp); (go_simp); (go_simp); (go_simp); rintro e w4 ⟨rfl, hM, o6, o7⟩))
    all_goals
      clear HWo HMa HRB
      go_wp2_with fail
      go_meet
      case rel => exact ⟨rfl, hM.out⟩
  case rest =>
    obtain ⟨rfl, hbc⟩ := hcut
    have hB1 := bthen hV hbc
    replace h := h.below hbc
    replace h' := h'.below hbc
    replace c0 := bkeep hbc c0 rfl
    replace c1 := bkeep hbc c1 rfl
    replace hR := hR.below hbc
    have hgr : w.heap.size ≤ G + 1 := by rw [HG.out]; omega
    have HF0 : Hid (rightI false ys = rightB ys) := by show _ = _; simp [rightI]
    clear HWo HMa HRB hV hbc hGV HG
    cases hr : Q with
    | false =>
      have HF : Hid (ToldF f X Y false [] [] 1) := ToldF.bad (by have := HQ.out; rw [hr, HF0.out] at this; rw [HXY.out.1]; unfold makeFF; rw [← this]; rfl)
      have hBB := put3_below hB1 hgr (.bool false) (.slice none 0 0) (.slice none 0 0)
      obtain ⟨r0, r1, r2, f0, f1, f2⟩ := hR
      clear h h' hB1 c0 c1
      go_wp2_with fail
      exact bodyPost_ret (v := .tuple #[.agg #[.bool false, .slice none 0 0, .slice none 0 0], .int .i64 1]) (by simp [results, Try.results10, go_sem, r0, r1, r2]) rfl ⟨false, none, 0, 0, none, 0, 0, [], [], 1, rfl, ⟨Nums.nil _, Nums.nil _⟩, HF.out, hBB⟩
    | true =>
      have hq := HQ.out
      rw [hr, HF0.out] at hq
      have hq2 := hq.symm
      rw [Bool.and_eq_true] at hq2
      have hW := IsW.self h.digs hq2.1
      have hy := IsN.self h'.digs hq2.2
      have hyp := nv_pos h'.digs hq2.2
      have HFF : Hid (f = makF (iv n xs) (nv ys)) := by show _ = _; rw [HXY.out.1]; unfold makeFF; rw [← hq]; rfl
      clear hq hq2 HQ HF0
      by_cases h0 : lb = 0
      · subst h0
        have HF : Hid (ToldF f X Y false [] [] 3) := ToldF.bad (by rw [HFF.out]; unfold makF; rw [if_pos (by have := HL.out; omega)])
        have hBB := put3_below hB1 hgr (.bool false) (.slice none 0 0) (.slice none 0 0)
        obtain ⟨r0, r1, r2, f0, f1, f2⟩ := hR
        clear h h' hW hy hyp HFF hB1 c0 c1
        go_wp2_with fail
        exact bodyPost_ret (v := .tuple #[.agg #[.bool false, .slice none 0 0, .slice none 0 0], .int .i64 3]) (by simp [results, Try.results10, go_sem, r0, r1, r2]) rfl ⟨false, none, 0, 0, none, 0, 0, [], [], 3, rfl, ⟨Nums.nil _, Nums.nil _⟩, HF.out, hBB⟩
      have h0i : ((lb : Int) == 0) = false := by simp; omega
      have hy0 : 0 < nv ys := hyp.2 (by rw [HL.out]; exact h0)
      have HLo := (show Hid _ from lowest_any n _ _ _ _ _ _ _ _ _ _ _ h h' hW hy hy0)
      rw [← HXY.out.2.1, ← HXY.out.2.2, ← HFF.out] at HLo
      clear h h' hW hy hyp HFF HXY hy0
      go_wp2_with fail
      refine Calls.mono HLo.out ?_
      rintro e w4 ⟨zb, za, zl, zc, za', zl', zc', zs, zs', err, rfl, ⟨hZ1, hZ2⟩, hTold, hb4⟩
      replace hR := hR.below hb4
      have hBB := put3_below (bthen hB1 hb4) hgr (.bool zb) (.slice za zl zc) (.slice za' zl' zc')
      have k1 := Nums.put3 hR hZ1 (.bool zb) (.slice za zl zc) (.slice za' zl' zc')
      have k2 := Nums.put3 hR hZ2 (.bool zb) (.slice za zl zc) (.slice za' zl' zc')
      have HT : Hid (ToldF f X Y zb zs zs' err) := hTold
      obtain ⟨r0, r1, r2, f0, f1, f2⟩ := hR
      clear HLo hZ1 hZ2 hTold hb4 hB1 c0 c1
      go_wp2_with fail
      exact bodyPost_ret (v := .tuple #[.agg #[.bool zb, .slice za zl zc, .slice za' zl' zc'], .int .i64 err]) (by simp [results, Try.results10, go_sem, r0, r1, r2]) rfl ⟨zb, za, zl, zc, za', zl', zc', zs, zs', err, rfl, ⟨k1, k2⟩, HT.out, hBB⟩
end Go.Proofs.Ytfeapegdaffckaa

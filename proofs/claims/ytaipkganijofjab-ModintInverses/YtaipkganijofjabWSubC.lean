/-
  The contract of modint.Sub.
-/
import Derived.Test.YtaipkganijofjabWSum
import Derived.Deep.RegionWith
import Derived.BigRegion
namespace Go.Proofs.Ytaipkganijofjab
open Go.RowKit

set_option maxHeartbeats 2000000 in
theorem isub_any (n m : Bool) (a b : Option Addr) (la ca lb cb : Nat) (zs ys : List Int) (w : World) (h : Nums w a la ca zs) (h' : Nums w b lb cb ys) :
    Calls Try.prog 41 #[.agg #[.bool n, .slice a la ca], .agg #[.bool m, .slice b lb cb]] w fun e w' => ∃ q a' n' c' ls err, e = .returned (.tuple #[.agg #[.bool q, .slice a' n' c'], .int .i64 err]) ∧ Nums w' a' n' c' ls ∧ Res2I n zs m ys (iv n zs - iv m ys) q ls err ∧ Below w.heap.size w w' := by
  have hB := (((Below.refl w.heap.size w).alloc (Nat.le_refl _) (.cells #[.bool n, .slice a la ca] 49)).alloc (by simp) (.cells #[.bool m, .slice b lb cb] 49)).alloc (by simp; omega) (.cells #[.bool false, .slice none 0 0] 49)
  have H := h.below hB
  have H' := h'.below hB
  cases hr' : rightI m ys with
  | false =>
    have HR : Hid (Res2I n zs m ys (iv n zs - iv m ys) false [] 1) := Res2I.bad _ (by rw [hr']; simp)
    go_enter Try.func41, Try.ntmps41
    go_wp2_with fail
    refine (iright_any _ _ _ _ _ _ H').mono ?_
    rintro e w1 ⟨rfl, hb1⟩
    rw [hr']
    obtain ⟨⟨c0, c1⟩, ⟨d0, d1⟩, ⟨s0, s1⟩, g0, g1⟩ := held222 hb1
    have hBB := ((hB.trans (hb1.mono hB.size)).setCell (p := ⟨w.heap.size + 1 + 1, 0, none⟩) (by simp; omega) (.bool false)).setCell (p := ⟨w.heap.size + 1 + 1, 1, none⟩) (by simp; omega) (.slice none 0 0)
    clear hB hb1 H H'
    go_wp2_with fail
    exact bodyPost_ret (v := .tuple #[.agg #[.bool false, .slice none 0 0], .int .i64 1]) (by simp [results, Try.results41, go_sem, s0, s1]) rfl ⟨_, _, _, _, _, _, rfl, Nums.nil _, HR.out, hBB⟩
  | true =>
      obtain ⟨nn, hnn⟩ : ∃ nn, nn = negN m ys := ⟨_, rfl⟩
      obtain ⟨nl, hnl⟩ : ∃ nl, nl = negL m ys := ⟨_, rfl⟩
      have HNN : Hid (nn = negN m ys ∧ nl = negL m ys) := ⟨hnn, hnl⟩
      clear hnn hnl
      go_enter Try.func41, Try.ntmps41
      go_wp2_with fail
      refine (iright_any _ _ _ _ _ _ H').mono ?_
      rintro e w1 ⟨rfl, hb1⟩
      rw [hr']
      obtain ⟨⟨c0, c1⟩, ⟨d0, d1⟩, ⟨s0, s1⟩, g0, g1⟩ := held222 hb1
      have K := H.below hb1
      have K' := H'.below hb1
      have hBB := hB.trans (hb1.mono hB.size)
      clear hB hb1 H H'
      have HNg : Hid (∀ wx, Below w1.heap.size w1 wx → Calls Try.prog 72 #[.agg #[.bool m, .slice b lb cb]] wx fun e w' => ∃ ya yn yc, e = .returned (.agg #[.bool nn, .slice ya yn yc]) ∧ (Nums w' ya yn yc nl ∧ Nums w' a la ca zs ∧ Below w1.heap.size w1 w') ∧ (w'.cell? ⟨w.heap.size, 0, none⟩ = some (.bool n) ∧ w'.cell? ⟨w.heap.size, 1, none⟩ = some (.slice a la ca))) := by
        intro wx hbx
        refine (ineg_any m _ _ _ _ wx (K'.below hbx)).mono ?_
        rintro e w' ⟨ya, yn, yc, rfl, hY, hb⟩
        have hb' := hbx.trans (hb.mono hbx.size)
        rw [← HNN.out.1]
        rw [← HNN.out.2] at hY
        exact ⟨ya, yn, yc, rfl, ⟨hY, K.below hb', hb'⟩, bkeep hb' c0 rfl, bkeep hb' c1 rfl⟩
      have HAd : Hid (∀ wx ya yn yc, Nums wx ya yn yc nl → Nums wx a la ca zs → Below w1.heap.size w1 wx → Calls Try.prog 71 #[.agg #[.bool n, .slice a la ca], .agg #[.bool nn, .slice ya yn yc]] wx fun e w' => ∃ q xa xn xc ls xe, e = .returned (.tuple #[.agg #[.bool q, .slice xa xn xc], .int .i64 xe]) ∧ (Nums w' xa xn xc ls ∧ Res2I n zs m ys (iv n zs - iv m ys) q ls xe ∧ Below w.heap.size w w') ∧
          (w'.cell? ⟨w.heap.size + 1 + 1, 0, none⟩ = some (.bool false) ∧ w'.cell? ⟨w.heap.size + 1 + 1, 1, none⟩ = some (.slice none 0 0)) ∧ w'.frozen? ⟨w.heap.size + 1 + 1, 0, none⟩ = false ∧ w'.frozen? ⟨w.heap.size + 1 + 1, 1, none⟩ = false) := by
        intro wx ya yn yc hy ha hbx
        refine (iadd_any n nn _ _ _ _ _ _ _ _ wx ha hy).mono ?_
        rintro e w' ⟨q, xa, xn, xc, ls, xe, rfl, hX, hres, hb⟩
        rw [HNN.out.1, HNN.out.2] at hres
        have hb' := hbx.trans (hb.mono hbx.size)
        exact ⟨q, xa, xn, xc, ls, xe, rfl, ⟨hX, sub_of_add hr' hres, hBB.trans (hb'.mono hBB.size)⟩, ⟨bkeep hb' s0 rfl, bkeep hb' s1 rfl⟩, (hb'.frozen (p := ⟨w.heap.size + 1 + 1, 0, none⟩) (World.block_lt_of_cell? _ _ s0)).trans g0, (hb'.frozen (p := ⟨w.heap.size + 1 + 1, 1, none⟩) (World.block_lt_of_cell? _ _ s1)).trans g1⟩
      clear K K' hBB HNN s0 s1 g0 g1
      go_wp2_with fail
      go_region_with (first
        | (go_at_call 72; refine (HNg.out _ ?_).mono ?_; (exact ⟨rfl, rfl, rfl, Nat.le_refl _, fun _ _ => rfl⟩); rintro e w3 ⟨ya, yn, yc, rfl, hY, p0, p1⟩)
        | (go_at_call 71; refine (HAd.out _ ya yn yc ?_ ?_ ?_).mono ?_; (exact hY.1.alike (fun _ => rfl)); (exact hY.2.1.alike (fun _ => rfl)); (exact ⟨hY.2.2.os, hY.2.2.tape, hY.2.2.output, hY.2.2.size, hY.2.2.block⟩); rintro e w4 ⟨q, xa, xn, xc, ls, xe, rfl, hX, ⟨s0, s1⟩, g0, g1⟩))
      all_goals
        have hX2 := hX.1.put2 s0 s1 (.bool q) (.slice xa xn xc)
        have hB9 := (hX.2.2.setCell (p := ⟨w.heap.size + 1 + 1, 0, none⟩) (by simp; omega) (.bool q)).setCell (p := ⟨w.heap.size + 1 + 1, 1, none⟩) (by simp; omega) (.slice xa xn xc)
        have HR : Hid (Res2I n zs m ys (iv n zs - iv m ys) q ls xe) := hX.2.1
        clear HNg HAd hX hY
        go_wp2_with fail
        exact bodyPost_ret (v := .tuple #[.agg #[.bool q, .slice xa xn xc], .int .i64 xe]) (by simp [results, Try.results41, go_sem, s0, s1]) rfl ⟨_, _, _, _, _, _, rfl, hX2, HR.out, hB9⟩
end Go.Proofs.Ytaipkganijofjab

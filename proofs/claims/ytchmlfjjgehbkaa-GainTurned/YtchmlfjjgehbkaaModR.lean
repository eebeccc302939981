/-
  The contract of the document's Sub of whole numbers.
  The contract of the document's Floor.
-/
import Derived.Test.YtchmlfjjgehbkaaModA
import Derived.Test.YtchmlfjjgehbkaaRefA
import Derived.Deep.RegionWith
import Derived.BigRegion
import Derived.Test.YtchmlfjjgehbkaaRefB
namespace Go.Proofs.Ytchmlfjjgehbkaa
open Go.RowKit

set_option maxHeartbeats 2000000 in
theorem refIMul_any (n m : Bool) (a b : Option Addr) (la ca lb cb : Nat) (zs ys : List Int) (w : World) (h : Nums w a la ca zs) (h' : Nums w b lb cb ys) :
    Calls Try.prog 17 #[.agg #[.bool n, .slice a la ca], .agg #[.bool m, .slice b lb cb]] w fun e w' => ∃ q a' n' c' ls err, e = .returned (.tuple #[.agg #[.bool q, .slice a' n' c'], .int .i64 err]) ∧ Nums w' a' n' c' ls ∧ Res2I n zs m ys (iv n zs * iv m ys) q ls err ∧ Below w.heap.size w w' := by
  have hB := (((Below.refl w.heap.size w).alloc (Nat.le_refl _) (.cells #[.bool n, .slice a la ca] 28)).alloc (by simp) (.cells #[.bool m, .slice b lb cb] 28)).alloc (by simp; omega) (.cells #[.bool false, .slice none 0 0] 28)
  have H := h.below hB
  have H' := h'.below hB
  by_cases hrr : rightI n zs = false ∨ rightI m ys = false
  · have HR : Hid (Res2I n zs m ys (iv n zs * iv m ys) false [] 1) := Res2I.bad _ (by rcases hrr with hr | hr <;> rw [hr] <;> simp)
    go_enter Try.func17, Try.ntmps17
    go_wp2_with fail
    refine (refIRight_any _ _ _ _ _ _ H).mono ?_
    rintro e w1 ⟨rfl, hb1⟩
    obtain ⟨⟨c0, c1⟩, ⟨d0, d1⟩, -, -⟩ := held222 hb1
    go_wp2_with fail
    refine (refIRight_any _ _ _ _ _ _ (H'.below hb1)).mono ?_
    rintro e w2 ⟨rfl, hb2⟩
    have hb12 := hb1.trans (hb2.mono hb1.size)
    obtain ⟨-, -, ⟨s0, s1⟩, g0, g1⟩ := held222 hb12
    have hBB := ((hB.trans (hb12.mono hB.size)).setCell (p := ⟨w.heap.size + 1 + 1, 0, none⟩) (by simp; omega) (.bool false)).setCell (p := ⟨w.heap.size + 1 + 1, 1, none⟩) (by simp; omega) (.slice none 0 0)
    clear hB hb1 hb2 hb12 H H' c0 c1 d0 d1
    cases hr : rightI n zs with
    | false =>
      clear hrr
      go_wp2_with fail
      exact bodyPost_ret (v := .tuple #[.agg #[.bool false, .slice none 0 0], .int .i64 1]) (by simp [results, Try.results17, go_sem, s0, s1]) rfl ⟨_, _, _, _, _, _, rfl, Nums.nil _, HR.out, hBB⟩
    | true =>
      cases hr' : rightI m ys with
      | false =>
        clear hrr
        go_wp2_with fail
        exact bodyPost_ret (v := .tuple #[.agg #[.bool false, .slice none 0 0], .int .i64 1]) (by simp [results, Try.results17, go_sem, s0, s1]) rfl ⟨_, _, _, _, _, _, rfl, Nums.nil _, HR.out, hBB⟩
      | true => simp [hr, hr'] at hrr
  · have hr : rightI n zs = true := by cases e : rightI n zs with | true => rfl | false => exact absurd (.inl e) hrr
    have hr' : rightI m ys = true := by cases e : rightI m ys with | true => rfl | false => exact absurd (.inr e) hrr
    clear hrr
    obtain ⟨em, hne⟩ : ∃ em, (n == m) = em := ⟨_, rfl⟩
    have HN : Hid ((!em) = decide (n ≠ m)) := by show _ = _; rw [← hne]; cases n <;> cases m <;> rfl
    go_enter Try.func17, Try.ntmps17
    go_wp2_with fail
    refine (refIRight_any _ _ _ _ _ _ H).mono ?_
    rintro e w1 ⟨rfl, hb1⟩
    rw [hr]
    obtain ⟨⟨c0, c1⟩, ⟨d0, d1⟩, -, -⟩ := held222 hb1
    go_wp2_with fail
    refine (refIRight_any _ _ _ _ _ _ (H'.below hb1)).mono ?_
    rintro e w2 ⟨rfl, hb2⟩
    rw [hr']
    have hb12 := hb1.trans (hb2.mono hb1.size)
    clear c0 c1 d0 d1
    obtain ⟨⟨c0, c1⟩, ⟨d0, d1⟩, ⟨s0, s1⟩, g0, g1⟩ := held222 hb12
    have K := H.below hb12
    have K' := H'.below hb12
    go_wp2_with fail
    refine (refMul_any _ _ _ _ _ _ _ _ _ K K').mono ?_
    rintro e w3 ⟨xa, xn, xc, ls, xe, rfl, hx, hxr, hb3⟩
    have hx0 := hxr.got (rightI_B hr) (rightI_B hr')
    have hR := Res2I.ok hr hr' (mul_sign (n := n) (m := m) hx0)
    obtain ⟨e1, e2⟩ := hx0.from (!em)
    rw [← HN.out, ← e2] at hR
    have HR : Hid (Res2I n zs m ys (iv n zs * iv m ys) (fromN (!em) ls) ls xe) := hR
    have HL : Hid (fromL ls = ls) := e1
    have hb13 := hb12.trans (hb3.mono hb12.size)
    clear c0 c1 d0 d1 s0 s1 g0 g1 hxr hR hx0 e1 e2
    obtain ⟨⟨c0, c1⟩, ⟨d0, d1⟩, -, -⟩ := held222 hb13
    go_wp2_with fail
    refine (refFrom_any (!em) _ _ _ _ _ hx).mono ?_
    rintro e w7 ⟨ya, yn, yc, rfl, hY, hb7⟩
    rw [HL.out] at hY
    generalize fromN (!em) ls = q at HR ⊢
    clear c0 c1 d0 d1
    have hb17 := hb13.trans (hb7.mono hb13.size)
    obtain ⟨⟨c0, c1⟩, ⟨d0, d1⟩, ⟨s0, s1⟩, g0, g1⟩ := held222 hb17
    have hx2 := hY.put2 s0 s1 (.bool q) (.slice ya yn yc)
    have hBB := ((hB.trans (hb17.mono hB.size)).setCell (p := ⟨w.heap.size + 1 + 1, 0, none⟩) (by simp; omega) (.bool q)).setCell (p := ⟨w.heap.size + 1 + 1, 1, none⟩) (by simp; omega) (.slice ya yn yc)
    clear hB hb1 hb2 hb12 hb3 hb13 hb7 hb17 H H' K K' hx hr hr' hY
    go_wp2_with fail
    exact bodyPost_ret (v := .tuple #[.agg #[.bool q, .slice ya yn yc], .int .i64 xe]) (by simp [results, Try.results17, go_sem, s0, s1]) rfl ⟨_, _, _, _, _, _, rfl, hx2, HR.out, hBB⟩
end Go.Proofs.Ytchmlfjjgehbkaa

namespace Go.Proofs.Ytchmlfjjgehbkaa
open Go.RowKit

end Go.Proofs.Ytchmlfjjgehbkaa

namespace Go.Proofs.Ytchmlfjjgehbkaa
open Go.RowKit

end Go.Proofs.Ytchmlfjjgehbkaa

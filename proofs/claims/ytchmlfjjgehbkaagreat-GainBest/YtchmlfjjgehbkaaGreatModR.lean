/-
  The contract of the document's Sub of whole numbers.
  The contract of the document's Floor.
-/
import Derived.Test.YtchmlfjjgehbkaaGreatModA
import Derived.Test.YtchmlfjjgehbkaaGreatRefA
import Derived.Deep.RegionWith
import Derived.BigRegion
import Derived.Test.YtchmlfjjgehbkaaGreatRefB
namespace Go.Proofs.YtchmlfjjgehbkaaGreat
open Go.RowKit

set_option maxHeartbeats 2000000 in
theorem refIAdd_any (n m : Bool) (a b : Option Addr) (la ca lb cb : Nat) (zs ys : List Int) (w : World) (h : Nums w a la ca zs) (h' : Nums w b lb cb ys) :
    Calls Tryz.prog 46 #[.agg #[.bool n, .slice a la ca], .agg #[.bool m, .slice b lb cb]] w fun e w' => ∃ q a' n' c' ls err, e = .returned (.tuple #[.agg #[.bool q, .slice a' n' c'], .int .i64 err]) ∧ Nums w' a' n' c' ls ∧ Res2I n zs m ys (iv n zs + iv m ys) q ls err ∧ Below w.heap.size w w' := by
  have hB := (((Below.refl w.heap.size w).alloc (Nat.le_refl _) (.cells #[.bool n, .slice a la ca] 28)).alloc (by simp) (.cells #[.bool m, .slice b lb cb] 28)).alloc (by simp; omega) (.cells #[.bool false, .slice none 0 0] 28)
  have H := h.below hB
  have H' := h'.below hB
  by_cases hrr : rightI n zs = false ∨ rightI m ys = false
  · have HR : Hid (Res2I n zs m ys (iv n zs + iv m ys) false [] 1) := Res2I.bad _ (by rcases hrr with hr | hr <;> rw [hr] <;> simp)
    go_enter Tryz.func46, Tryz.ntmps46
    go_wp2_with fail
    refine (refIRight_any _ _ _ _ _ _ H).mono ?_
    rintro e w1 ⟨rfl, hb1⟩
    obtain ⟨⟨c0, c1⟩, ⟨d0, d1⟩, -, -⟩ := held222 hb1
    go_wp2_with fail
    refine (refIRight_any _ _ _ _ _ _ (H'.below hb1)).mono ?_
    rintro e w2 ⟨rfl, hb2⟩
    have hb12 := hb1.trans (hb2.mono hb1.size)
    obtain ⟨-, -, ⟨s0, s1⟩, g0, g1⟩ := held222 hb12
    have hBB := ((hB.trans (hb12.mono hB.size)).setCell (p := ⟨w.heap.size + 1 + 1, 0, none⟩) (by simp; omega) (.bool false)).setCell (p := ⟨w.heap.size + 1 + 1, 1, none⟩) (by simp; omega) (.slice none 0 0)
    clear hB hb1 hb2 hb12 H H' c0 c1 d0 d1
    cases hr : rightI n zs with
    | false =>
      clear hrr
      go_wp2_with fail
      exact bodyPost_ret (v := .tuple #[.agg #[.bool false, .slice none 0 0], .int .i64 1]) (by simp [results, Tryz.results46, go_sem, s0, s1]) rfl ⟨_, _, _, _, _, _, rfl, Nums.nil _, HR.out, hBB⟩
    | true =>
      cases hr' : rightI m ys with
      | false =>
        clear hrr
        go_wp2_with fail
        exact bodyPost_ret (v := .tuple #[.agg #[.bool false, .slice none 0 0], .int .i64 1]) (by simp [results, Tryz.results46, go_sem, s0, s1]) rfl ⟨_, _, _, _, _, _, rfl, Nums.nil _, HR.out, hBB⟩
      | true => simp [hr, hr'] at hrr
  · have hr : rightI n zs = true := by cases e : rightI n zs with | true => rfl | false => exact absurd (.inl e) hrr
    have hr' : rightI m ys = true := by cases e : rightI m ys with | true => rfl | false => exact absurd (.inr e) hrr
    clear hrr
    have hb := rightI_B hr
    have hb' := rightI_B hr'
    have hd := h.digs
    have hd' := h'.digs
    obtain ⟨cc, hcc⟩ : ∃ cc, cc = cmpN zs ys := ⟨_, rfl⟩
    have HC : Hid (cc = cmpN zs ys) := hcc
    clear hcc
    go_enter Tryz.func46, Tryz.ntmps46
    go_wp2_with fail
    refine (refIRight_any _ _ _ _ _ _ H).mono ?_
    rintro e w1 ⟨rfl, hb1⟩
    rw [hr]
    obtain ⟨⟨c0, c1⟩, ⟨d0, d1⟩, -, -⟩ := held222 hb1
    go_wp2_with fail
    refine (refIRight_any _ _ _ _ _ _ (H'.below hb1)).mono ?_
    rintro e w2 ⟨rfl, hb2⟩
    rw [hr']
    have hb12 := hb1.trans (hb2.mono hb1.size)
    clear c0 c1 d0 d1
    obtain ⟨⟨c0, c1⟩, ⟨d0, d1⟩, ⟨s0, s1⟩, g0, g1⟩ := held222 hb12
    have K := H.below hb12
    have K' := H'.below hb12
    by_cases hnm : n = m
    · subst hnm
      have hbne : (n == n) = true := by simp
      go_wp2_with fail
      refine (refAdd_any _ _ _ _ _ _ _ _ _ K K').mono ?_
      rintro e w3 ⟨xa, xn, xc, ls, xe, rfl, hx, hxr, hb3⟩
      have hx0 := hxr.got hb hb'
      have hR := Res2I.ok hr hr' (add_same (n := n) hx0)
      obtain ⟨e1, e2⟩ := hx0.from n
      rw [← e2] at hR
      have HR : Hid (Res2I n zs n ys (iv n zs + iv n ys) (fromN n ls) ls xe) := hR
      have HL : Hid (fromL ls = ls) := e1
      have hb13 := hb12.trans (hb3.mono hb12.size)
      clear c0 c1 d0 d1 s0 s1 g0 g1 hxr hR hx0 e1 e2
      obtain ⟨⟨c0, c1⟩, ⟨d0, d1⟩, -, -⟩ := held222 hb13
      go_wp2_with fail
      refine (refFrom_any n _ _ _ _ _ hx).mono ?_
      rintro e w7 ⟨ya, yn, yc, rfl, hY, hb7⟩
      rw [HL.out] at hY
      generalize fromN n ls = q at HR ⊢
      clear c0 c1 d0 d1
      have hb17 := hb13.trans (hb7.mono hb13.size)
      obtain ⟨⟨c0, c1⟩, ⟨d0, d1⟩, ⟨s0, s1⟩, g0, g1⟩ := held222 hb17
      have hx2 := hY.put2 s0 s1 (.bool q) (.slice ya yn yc)
      have hBB := ((hB.trans (hb17.mono hB.size)).setCell (p := ⟨w.heap.size + 1 + 1, 0, none⟩) (by simp; omega) (.bool q)).setCell (p := ⟨w.heap.size + 1 + 1, 1, none⟩) (by simp; omega) (.slice ya yn yc)
      clear hB hb1 hb2 hb12 hb3 hb13 hb7 hb17 H H' K K' hx hY
      go_wp2_with fail
      exact bodyPost_ret (v := .tuple #[.agg #[.bool q, .slice ya yn yc], .int .i64 xe]) (by simp [results, Tryz.results46, go_sem, s0, s1]) rfl ⟨_, _, _, _, _, _, rfl, hx2, HR.out, hBB⟩
    · have hbne : (n == m) = false := by simp [hnm]
      go_wp2_with fail
      refine (refCmp_any _ _ _ _ _ _ _ _ _ K K').mono ?_
      rintro e w22 ⟨rfl, hb22⟩
      rw [← HC.out]
      have hb122 := hb12.trans (hb22.mono hb12.size)
      replace K := K.below hb22
      replace K' := K'.below hb22
      clear c0 c1 d0 d1 s0 s1 g0 g1
      obtain ⟨⟨c0, c1⟩, ⟨d0, d1⟩, ⟨s0, s1⟩, g0, g1⟩ := held222 hb122
      clear hb22
      by_cases hlt : cc < 0
      · have hv : val 18446744073709551616 zs ≤ val 18446744073709551616 ys := by rw [HC.out] at hlt; have := (cmpN_lt hb hb').1 hlt; omega
        have HV : Hid (val 18446744073709551616 zs ≤ val 18446744073709551616 ys) := hv
        have hdc : decide (0 ≤ cc) = false := by simp; omega
        clear hv
        go_wp2_with fail
        refine (refSub_any _ _ _ _ _ _ _ _ _ K' K).mono ?_
        rintro e w3 ⟨xa, xn, xc, ls, xe, rfl, hx, hxr, hb3⟩
        have hx0 := (hxr.got hd' hd hb' hb HV.out).2
        have hR0 := apart_ge (Ne.symm hnm) hx0
        rw [Int.add_comm] at hR0
        have hR := Res2I.ok hr hr' hR0
        obtain ⟨e1, e2⟩ := hx0.from m
        rw [← e2] at hR
        clear hR0
        have HR : Hid (Res2I n zs m ys (iv n zs + iv m ys) (fromN m ls) ls 0) := hR
        have HL : Hid (fromL ls = ls) := e1
        have hb13 := hb122.trans (hb3.mono hb122.size)
        clear c0 c1 d0 d1 s0 s1 g0 g1 hxr hR hx0 e1 e2
        obtain ⟨⟨c0, c1⟩, ⟨d0, d1⟩, -, -⟩ := held222 hb13
        go_wp2_with fail
        refine (refFrom_any m _ _ _ _ _ hx).mono ?_
        rintro e w7 ⟨ya, yn, yc, rfl, hY, hb7⟩
        rw [HL.out] at hY
        generalize fromN m ls = q at HR ⊢
        clear c0 c1 d0 d1
        have hb17 := hb13.trans (hb7.mono hb13.size)
        obtain ⟨⟨c0, c1⟩, ⟨d0, d1⟩, ⟨s0, s1⟩, g0, g1⟩ := held222 hb17
        have hx2 := hY.put2 s0 s1 (.bool q) (.slice ya yn yc)
        have hBB := ((hB.trans (hb17.mono hB.size)).setCell (p := ⟨w.heap.size + 1 + 1, 0, none⟩) (by simp; omega) (.bool q)).setCell (p := ⟨w.heap.size + 1 + 1, 1, none⟩) (by simp; omega) (.slice ya yn yc)
        clear hB hb1 hb2 hb12 hb3 hb13 hb7 hb17 H H' K K' hx hY
        go_wp2_with fail
        exact bodyPost_ret (v := .tuple #[.agg #[.bool q, .slice ya yn yc], .int .i64 0]) (by simp [results, Tryz.results46, go_sem, s0, s1]) rfl ⟨_, _, _, _, _, _, rfl, hx2, HR.out, hBB⟩
      · have hv : val 18446744073709551616 ys ≤ val 18446744073709551616 zs := by
          have := mt (cmpN_lt hb hb').2 (by rw [← HC.out]; exact hlt)
          omega
        have HV : Hid (val 18446744073709551616 ys ≤ val 18446744073709551616 zs) := hv
        have hdc : 0 ≤ cc := by omega
        clear hv
        go_wp2_with fail
        refine (refSub_any _ _ _ _ _ _ _ _ _ K K').mono ?_
        rintro e w3 ⟨xa, xn, xc, ls, xe, rfl, hx, hxr, hb3⟩
        have hx0 := (hxr.got hd hd' hb hb' HV.out).2
        have hR0 := apart_ge hnm hx0
        have hR := Res2I.ok hr hr' hR0
        obtain ⟨e1, e2⟩ := hx0.from n
        rw [← e2] at hR
        clear hR0
        have HR : Hid (Res2I n zs m ys (iv n zs + iv m ys) (fromN n ls) ls 0) := hR
        have HL : Hid (fromL ls = ls) := e1
        have hb13 := hb122.trans (hb3.mono hb122.size)
        clear c0 c1 d0 d1 s0 s1 g0 g1 hxr hR hx0 e1 e2
        obtain ⟨⟨c0, c1⟩, ⟨d0, d1⟩, -, -⟩ := held222 hb13
        go_wp2_with fail
        refine (refFrom_any n _ _ _ _ _ hx).mono ?_
        rintro e w7 ⟨ya, yn, yc, rfl, hY, hb7⟩
        rw [HL.out] at hY
        generalize fromN n ls = q at HR ⊢
        clear c0 c1 d0 d1
        have hb17 := hb13.trans (hb7.mono hb13.size)
        obtain ⟨⟨c0, c1⟩, ⟨d0, d1⟩, ⟨s0, s1⟩, g0, g1⟩ := held222 hb17
        have hx2 := hY.put2 s0 s1 (.bool q) (.slice ya yn yc)
        have hBB := ((hB.trans (hb17.mono hB.size)).setCell (p := ⟨w.heap.size + 1 + 1, 0, none⟩) (by simp; omega) (.bool q)).setCell (p := ⟨w.heap.size + 1 + 1, 1, none⟩) (by simp; omega) (.slice ya yn yc)
        clear hB hb1 hb2 hb12 hb3 hb13 hb7 hb17 H H' K K' hx hY
        go_wp2_with fail
        exact bodyPost_ret (v := .tuple #[.agg #[.bool q, .slice ya yn yc], .int .i64 0]) (by simp [results, Tryz.results46, go_sem, s0, s1]) rfl ⟨_, _, _, _, _, _, rfl, hx2, HR.out, hBB⟩

set_option maxHeartbeats 2000000 in
theorem refIMul_any (n m : Bool) (a b : Option Addr) (la ca lb cb : Nat) (zs ys : List Int) (w : World) (h : Nums w a la ca zs) (h' : Nums w b lb cb ys) :
    Calls Tryz.prog 44 #[.agg #[.bool n, .slice a la ca], .agg #[.bool m, .slice b lb cb]] w fun e w' => ∃ q a' n' c' ls err, e = .returned (.tuple #[.agg #[.bool q, .slice a' n' c'], .int .i64 err]) ∧ Nums w' a' n' c' ls ∧ Res2I n zs m ys (iv n zs * iv m ys) q ls err ∧ Below w.heap.size w w' := by
  have hB := (((Below.refl w.heap.size w).alloc (Nat.le_refl _) (.cells #[.bool n, .slice a la ca] 28)).alloc (by simp) (.cells #[.bool m, .slice b lb cb] 28)).alloc (by simp; omega) (.cells #[.bool false, .slice none 0 0] 28)
  have H := h.below hB
  have H' := h'.below hB
  by_cases hrr : rightI n zs = false ∨ rightI m ys = false
  · have HR : Hid (Res2I n zs m ys (iv n zs * iv m ys) false [] 1) := Res2I.bad _ (by rcases hrr with hr | hr <;> rw [hr] <;> simp)
    go_enter Tryz.func44, Tryz.ntmps44
    go_wp2_with fail
    refine (refIRight_any _ _ _ _ _ _ H).mono ?_
    rintro e w1 ⟨rfl, hb1⟩
    obtain ⟨⟨c0, c1⟩, ⟨d0, d1⟩, -, -⟩ := held222 hb1
    go_wp2_with fail
    refine (refIRight_any _ _ _ _ _ _ (H'.below hb1)).mono ?_
    rintro e w2 ⟨rfl, hb2⟩
    have hb12 := hb1.trans (hb2.mono hb1.size)
    obtain ⟨-, -, ⟨s0, s1⟩, g0, g1⟩ := held222 hb12
    have hBB := ((hB.trans (hb12.mono hB.size)).setCell (p := ⟨w.heap.size + 1 + 1, 0, none⟩) (by simp; omega) (.bool false)).setCell (p := ⟨w.heap.size + 1 + 1, 1, none⟩) (by simp; omega) (.slice none 0 0)
    clear hB hb1 hb2 hb12 H H' c0 c1 d0 d1
    cases hr : rightI n zs with
    | false =>
      clear hrr
      go_wp2_with fail
      exact bodyPost_ret (v := .tuple #[.agg #[.bool false, .slice none 0 0], .int .i64 1]) (by simp [results, Tryz.results44, go_sem, s0, s1]) rfl ⟨_, _, _, _, _, _, rfl, Nums.nil _, HR.out, hBB⟩
    | true =>
      cases hr' : rightI m ys with
      | false =>
        clear hrr
        go_wp2_with fail
        exact bodyPost_ret (v := .tuple #[.agg #[.bool false, .slice none 0 0], .int .i64 1]) (by simp [results, Tryz.results44, go_sem, s0, s1]) rfl ⟨_, _, _, _, _, _, rfl, Nums.nil _, HR.out, hBB⟩
      | true => simp [hr, hr'] at hrr
  · have hr : rightI n zs = true := by cases e : rightI n zs with | true => rfl | false => exact absurd (.inl e) hrr
    have hr' : rightI m ys = true := by cases e : rightI m ys with | true => rfl | false => exact absurd (.inr e) hrr
    clear hrr
    obtain ⟨em, hne⟩ : ∃ em, (n == m) = em := ⟨_, rfl⟩
    have HN : Hid ((!em) = decide (n ≠ m)) := by show _ = _; rw [← hne]; cases n <;> cases m <;> rfl
    go_enter Tryz.func44, Tryz.ntmps44
    go_wp2_with fail
    refine (refIRight_any _ _ _ _ _ _ H).mono ?_
    rintro e w1 ⟨rfl, hb1⟩
    rw [hr]
    obtain ⟨⟨c0, c1⟩, ⟨d0, d1⟩, -, -⟩ := held222 hb1
    go_wp2_with fail
    refine (refIRight_any _ _ _ _ _ _ (H'.below hb1)).mono ?_
    rintro e w2 ⟨rfl, hb2⟩
    rw [hr']
    have hb12 := hb1.trans (hb2.mono hb1.size)
    clear c0 c1 d0 d1
    obtain ⟨⟨c0, c1⟩, ⟨d0, d1⟩, ⟨s0, s1⟩, g0, g1⟩ := held222 hb12
    have K := H.below hb12
    have K' := H'.below hb12
    go_wp2_with fail
    refine (refMul_any _ _ _ _ _ _ _ _ _ K K').mono ?_
    rintro e w3 ⟨xa, xn, xc, ls, xe, rfl, hx, hxr, hb3⟩
    have hx0 := hxr.got (rightI_B hr) (rightI_B hr')
    have hR := Res2I.ok hr hr' (mul_sign (n := n) (m := m) hx0)
    obtain ⟨e1, e2⟩ := hx0.from (!em)
    rw [← HN.out, ← e2] at hR
    have HR : Hid (Res2I n zs m ys (iv n zs * iv m ys) (fromN (!em) ls) ls xe) := hR
    have HL : Hid (fromL ls = ls) := e1
    have hb13 := hb12.trans (hb3.mono hb12.size)
    clear c0 c1 d0 d1 s0 s1 g0 g1 hxr hR hx0 e1 e2
    obtain ⟨⟨c0, c1⟩, ⟨d0, d1⟩, -, -⟩ := held222 hb13
    go_wp2_with fail
    refine (refFrom_any (!em) _ _ _ _ _ hx).mono ?_
    rintro e w7 ⟨ya, yn, yc, rfl, hY, hb7⟩
    rw [HL.out] at hY
    generalize fromN (!em) ls = q at HR ⊢
    clear c0 c1 d0 d1
    have hb17 := hb13.trans (hb7.mono hb13.size)
    obtain ⟨⟨c0, c1⟩, ⟨d0, d1⟩, ⟨s0, s1⟩, g0, g1⟩ := held222 hb17
    have hx2 := hY.put2 s0 s1 (.bool q) (.slice ya yn yc)
    have hBB := ((hB.trans (hb17.mono hB.size)).setCell (p := ⟨w.heap.size + 1 + 1, 0, none⟩) (by simp; omega) (.bool q)).setCell (p := ⟨w.heap.size + 1 + 1, 1, none⟩) (by simp; omega) (.slice ya yn yc)
    clear hB hb1 hb2 hb12 hb3 hb13 hb7 hb17 H H' K K' hx hr hr' hY
    go_wp2_with fail
    exact bodyPost_ret (v := .tuple #[.agg #[.bool q, .slice ya yn yc], .int .i64 xe]) (by simp [results, Tryz.results44, go_sem, s0, s1]) rfl ⟨_, _, _, _, _, _, rfl, hx2, HR.out, hBB⟩
end Go.Proofs.YtchmlfjjgehbkaaGreat

namespace Go.Proofs.YtchmlfjjgehbkaaGreat
open Go.RowKit

end Go.Proofs.YtchmlfjjgehbkaaGreat

namespace Go.Proofs.YtchmlfjjgehbkaaGreat
open Go.RowKit

end Go.Proofs.YtchmlfjjgehbkaaGreat

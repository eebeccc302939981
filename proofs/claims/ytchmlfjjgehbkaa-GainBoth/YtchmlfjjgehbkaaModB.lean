/-
  Contracts of modint's apart, Add, Sub and Mul.
  The contract of modint.Sub.
  Contracts of modint's oneFurther and Floor.
-/
import Derived.Test.YtchmlfjjgehbkaaModA
import Derived.Test.YtchmlfjjgehbkaaNatC
import Derived.Deep.RegionWith
import Derived.BigRegion
namespace Go.Proofs.Ytchmlfjjgehbkaa
open Go.RowKit

set_option maxHeartbeats 1000000 in
theorem apart_any (n m : Bool) (a b : Option Addr) (la ca lb cb : Nat) (zs ys : List Int) (w : World) (h : Nums w a la ca zs) (h' : Nums w b lb cb ys) (hr : rightI n zs = true) (hr' : rightI m ys = true) (hne : n ≠ m) :
    Calls Try.prog 76 #[.agg #[.bool n, .slice a la ca], .agg #[.bool m, .slice b lb cb]] w fun e w' => ∃ q a' n' c' ls, e = .returned (.agg #[.bool q, .slice a' n' c']) ∧ Nums w' a' n' c' ls ∧ ResW (iv n zs + iv m ys) q ls 0 ∧ Below w.heap.size w w' := by
  have hB := (((Below.refl w.heap.size w).alloc (Nat.le_refl _) (.cells #[.bool n, .slice a la ca] 28)).alloc (by simp) (.cells #[.bool m, .slice b lb cb] 28)).alloc (by simp; omega) (.cells #[.bool false, .slice none 0 0] 28)
  have H := h.below hB
  have H' := h'.below hB
  have hb := rightI_B hr
  have hb' := rightI_B hr'
  have hd := h.digs
  have hd' := h'.digs
  obtain ⟨cc, hcc⟩ : ∃ cc, cc = cmpN zs ys := ⟨_, rfl⟩
  have HC : Hid (cc = cmpN zs ys) := hcc
  clear hcc
  by_cases hlt : cc < 0
  · have hv : val 18446744073709551616 zs < val 18446744073709551616 ys := by rw [HC.out] at hlt; exact (cmpN_lt hb hb').1 hlt
    have HV : Hid (val 18446744073709551616 zs < val 18446744073709551616 ys) := hv
    clear hv
    go_enter Try.func76, Try.ntmps76
    go_wp2_with fail
    refine (cmp_any _ _ _ _ _ _ _ _ _ H H').mono ?_
    rintro e w1 ⟨rfl, hb1⟩
    rw [← HC.out]
    obtain ⟨⟨c0, c1⟩, ⟨d0, d1⟩, ⟨r0, r1⟩, f0, f1⟩ := held222 hb1
    have K := H.below hb1
    have K' := H'.below hb1
    have hB1 := hB.trans (hb1.mono hB.size)
    have e0 : ((w1.setCell ⟨w.heap.size, 0, none⟩ (.bool m)).setCell ⟨w.heap.size, 1, none⟩ (.slice b lb cb)).cell? ⟨w.heap.size + 1, 0, none⟩ = some (.bool m) := (put2_other (by omega) _ _).trans d0
    have e1 : ((w1.setCell ⟨w.heap.size, 0, none⟩ (.bool m)).setCell ⟨w.heap.size, 1, none⟩ (.slice b lb cb)).cell? ⟨w.heap.size + 1, 1, none⟩ = some (.slice b lb cb) := (put2_other (by omega) _ _).trans d1
    have K2 := (K.put2 c0 c1 (.bool m) (.slice b lb cb)).put2 e0 e1 (.bool n) (.slice a la ca)
    have K2' := (K'.put2 c0 c1 (.bool m) (.slice b lb cb)).put2 e0 e1 (.bool n) (.slice a la ca)
    have s0 := (put2_other (w := (w1.setCell ⟨w.heap.size, 0, none⟩ (.bool m)).setCell ⟨w.heap.size, 1, none⟩ (.slice b lb cb)) (g := w.heap.size + 1) (g' := w.heap.size + 1 + 1) (i := 0) (by omega) (.bool n) (.slice a la ca)).trans ((put2_other (by omega) _ _).trans r0)
    have s1 := (put2_other (w := (w1.setCell ⟨w.heap.size, 0, none⟩ (.bool m)).setCell ⟨w.heap.size, 1, none⟩ (.slice b lb cb)) (g := w.heap.size + 1) (g' := w.heap.size + 1 + 1) (i := 1) (by omega) (.bool n) (.slice a la ca)).trans ((put2_other (by omega) _ _).trans r1)
    have t0 : ((((w1.setCell ⟨w.heap.size, 0, none⟩ (.bool m)).setCell ⟨w.heap.size, 1, none⟩ (.slice b lb cb)).setCell ⟨w.heap.size + 1, 0, none⟩ (.bool n)).setCell ⟨w.heap.size + 1, 1, none⟩ (.slice a la ca)).cell? ⟨w.heap.size, 0, none⟩ = some (.bool m) := by
      rw [put2_other (by omega), World.cell?_setCell_other _ _ _ _ (by intro e; cases e)]; exact World.cell?_setCell_same _ _ _ c0
    have hB5 := (((hB1.setCell (p := ⟨w.heap.size, 0, none⟩) (Nat.le_refl _) (.bool m)).setCell (p := ⟨w.heap.size, 1, none⟩) (Nat.le_refl _) (.slice b lb cb)).setCell (p := ⟨w.heap.size + 1, 0, none⟩) (by simp) (.bool n)).setCell (p := ⟨w.heap.size + 1, 1, none⟩) (by simp) (.slice a la ca)
    have g0 : ((((w1.setCell ⟨w.heap.size, 0, none⟩ (.bool m)).setCell ⟨w.heap.size, 1, none⟩ (.slice b lb cb)).setCell ⟨w.heap.size + 1, 0, none⟩ (.bool n)).setCell ⟨w.heap.size + 1, 1, none⟩ (.slice a la ca)).frozen? ⟨w.heap.size + 1 + 1, 0, none⟩ = false := by simp [f0]
    have g1 : ((((w1.setCell ⟨w.heap.size, 0, none⟩ (.bool m)).setCell ⟨w.heap.size, 1, none⟩ (.slice b lb cb)).setCell ⟨w.heap.size + 1, 0, none⟩ (.bool n)).setCell ⟨w.heap.size + 1, 1, none⟩ (.slice a la ca)).frozen? ⟨w.heap.size + 1 + 1, 1, none⟩ = false := by simp [f1]
    have HK := (show Hid _ from And.intro K2 (And.intro K2' (And.intro s0 (And.intro s1 (And.intro t0 (And.intro hB5 (And.intro g0 g1)))))))
    obtain ⟨hc, hf⟩ := bcell hb1
    clear K2 K2' s0 s1 t0 hB5 e0 e1 H H' hB g0 g1
    go_wp2_with fail
    obtain ⟨K2, K2', s0, s1, t0, hB5, g0, g1⟩ := HK.out
    clear HK c0 c1 d0 d1 r0 r1 f0 f1 hc hf K K' hb1 hB1
    generalize (((w1.setCell ⟨w.heap.size, 0, none⟩ (.bool m)).setCell ⟨w.heap.size, 1, none⟩ (.slice b lb cb)).setCell ⟨w.heap.size + 1, 0, none⟩ (.bool n)).setCell ⟨w.heap.size + 1, 1, none⟩ (.slice a la ca) = W5 at *
    refine (sub_any _ _ _ _ _ _ _ _ _ K2' K2).mono ?_
    rintro e w6 ⟨xa, xn, xc, ls, xe, rfl, hx, hxr, -, hb6⟩
    have hR := (hxr.got hd' hd hb' hb (by have := HV.out; omega)).2
    have hb7 := apart_ge (Ne.symm hne) hR
    rw [Int.add_comm] at hb7
    have HR : Hid (ResW (iv n zs + iv m ys) (m && decide (0 < ls.length)) ls 0) := hb7
    have hxl := hx.hlen
    clear hxr hR hb7
    have t0' := bkeep hb6 t0 rfl
    go_wp2_with fail
    refine (signed_any _ _ _ _ _ _ hx).mono ?_
    rintro e w7 ⟨rfl, hb7⟩
    obtain ⟨q, hq⟩ : ∃ q, q = (m && decide (0 < ls.length)) := ⟨_, rfl⟩
    rw [← hq]
    rw [← hq] at HR
    clear hq
    have g0' : w7.frozen? ⟨w.heap.size + 1 + 1, 0, none⟩ = false := ((hb6.trans (hb7.mono hb6.size)).frozen (p := ⟨w.heap.size + 1 + 1, 0, none⟩) (World.block_lt_of_cell? _ _ s0)).trans g0
    have g1' : w7.frozen? ⟨w.heap.size + 1 + 1, 1, none⟩ = false := ((hb6.trans (hb7.mono hb6.size)).frozen (p := ⟨w.heap.size + 1 + 1, 1, none⟩) (World.block_lt_of_cell? _ _ s1)).trans g1
    have s0' := bkeep (hb6.trans (hb7.mono hb6.size)) s0 rfl
    have s1' := bkeep (hb6.trans (hb7.mono hb6.size)) s1 rfl
    have hx2 := (hx.below hb7).put2 s0' s1' (.bool q) (.slice xa xn xc)
    have hBB := (((hB5.trans (hb6.mono hB5.size)).trans (hb7.mono (hB5.trans (hb6.mono hB5.size)).size)).setCell (p := ⟨w.heap.size + 1 + 1, 0, none⟩) (by simp; omega) (.bool q)).setCell (p := ⟨w.heap.size + 1 + 1, 1, none⟩) (by simp; omega) (.slice xa xn xc)
    clear hb6 hb7 hx g0 g1 s0 s1 t0 K2 K2' hB5 hxl t0'
    go_wp2_with fail
    exact bodyPost_ret (v := .agg #[.bool q, .slice xa xn xc]) (by simp [results, Try.results76, go_sem, s0', s1']) rfl ⟨_, _, _, _, _, rfl, hx2, HR.out, hBB⟩
  · have hv : val 18446744073709551616 ys ≤ val 18446744073709551616 zs := by
      have := mt (cmpN_lt hb hb').2 (by rw [← HC.out]; exact hlt)
      omega
    have HV : Hid (val 18446744073709551616 ys ≤ val 18446744073709551616 zs) := hv
    have hdc : decide (cc < 0) = false := by simp; omega
    clear hv
    go_enter Try.func76, Try.ntmps76
    go_wp2_with fail
    refine (cmp_any _ _ _ _ _ _ _ _ _ H H').mono ?_
    rintro e w1 ⟨rfl, hb1⟩
    rw [← HC.out]
    obtain ⟨⟨c0, c1⟩, ⟨d0, d1⟩, ⟨s0, s1⟩, g0, g1⟩ := held222 hb1
    have K2 := H.below hb1
    have K2' := H'.below hb1
    have hB5 := hB.trans (hb1.mono hB.size)
    clear H H' hB hb1
    go_wp2_with fail
    refine (sub_any _ _ _ _ _ _ _ _ _ K2 K2').mono ?_
    rintro e w6 ⟨xa, xn, xc, ls, xe, rfl, hx, hxr, -, hb6⟩
    have hR := (hxr.got hd hd' hb hb' HV.out).2
    have hb7 := apart_ge hne hR
    have HR : Hid (ResW (iv n zs + iv m ys) (n && decide (0 < ls.length)) ls 0) := hb7
    have hxl := hx.hlen
    clear hxr hR hb7
    have t0 := c0
    have t0' := bkeep hb6 t0 rfl
    go_wp2_with fail
    refine (signed_any _ _ _ _ _ _ hx).mono ?_
    rintro e w7 ⟨rfl, hb7⟩
    obtain ⟨q, hq⟩ : ∃ q, q = (n && decide (0 < ls.length)) := ⟨_, rfl⟩
    rw [← hq]
    rw [← hq] at HR
    clear hq
    have g0' : w7.frozen? ⟨w.heap.size + 1 + 1, 0, none⟩ = false := ((hb6.trans (hb7.mono hb6.size)).frozen (p := ⟨w.heap.size + 1 + 1, 0, none⟩) (World.block_lt_of_cell? _ _ s0)).trans g0
    have g1' : w7.frozen? ⟨w.heap.size + 1 + 1, 1, none⟩ = false := ((hb6.trans (hb7.mono hb6.size)).frozen (p := ⟨w.heap.size + 1 + 1, 1, none⟩) (World.block_lt_of_cell? _ _ s1)).trans g1
    have s0' := bkeep (hb6.trans (hb7.mono hb6.size)) s0 rfl
    have s1' := bkeep (hb6.trans (hb7.mono hb6.size)) s1 rfl
    have hx2 := (hx.below hb7).put2 s0' s1' (.bool q) (.slice xa xn xc)
    have hBB := (((hB5.trans (hb6.mono hB5.size)).trans (hb7.mono (hB5.trans (hb6.mono hB5.size)).size)).setCell (p := ⟨w.heap.size + 1 + 1, 0, none⟩) (by simp; omega) (.bool q)).setCell (p := ⟨w.heap.size + 1 + 1, 1, none⟩) (by simp; omega) (.slice xa xn xc)
    clear hb6 hb7 hx g0 g1 s0 s1 t0 K2 K2' hB5 hxl t0' c0 c1 d0 d1
    go_wp2_with fail
    exact bodyPost_ret (v := .agg #[.bool q, .slice xa xn xc]) (by simp [results, Try.results76, go_sem, s0', s1']) rfl ⟨_, _, _, _, _, rfl, hx2, HR.out, hBB⟩

set_option maxHeartbeats 1000000 in
theorem iadd_any (n m : Bool) (a b : Option Addr) (la ca lb cb : Nat) (zs ys : List Int) (w : World) (h : Nums w a la ca zs) (h' : Nums w b lb cb ys) :
    Calls Try.prog 63 #[.agg #[.bool n, .slice a la ca], .agg #[.bool m, .slice b lb cb]] w fun e w' => ∃ q a' n' c' ls err, e = .returned (.tuple #[.agg #[.bool q, .slice a' n' c'], .int .i64 err]) ∧ Nums w' a' n' c' ls ∧ Res2I n zs m ys (iv n zs + iv m ys) q ls err ∧ Below w.heap.size w w' := by
  have hB := (((Below.refl w.heap.size w).alloc (Nat.le_refl _) (.cells #[.bool n, .slice a la ca] 28)).alloc (by simp) (.cells #[.bool m, .slice b lb cb] 28)).alloc (by simp; omega) (.cells #[.bool false, .slice none 0 0] 28)
  have H := h.below hB
  have H' := h'.below hB
  cases hr : rightI n zs with
  | false =>
    have HR : Hid (Res2I n zs m ys (iv n zs + iv m ys) false [] 1) := Res2I.bad _ (by rw [hr]; rfl)
    go_enter Try.func63, Try.ntmps63
    go_wp2_with fail
    refine (iright_any _ _ _ _ _ _ H).mono ?_
    rintro e w1 ⟨rfl, hb1⟩
    rw [hr]
    obtain ⟨⟨c0, c1⟩, ⟨d0, d1⟩, ⟨s0, s1⟩, g0, g1⟩ := held222 hb1
    have hBB := ((hB.trans (hb1.mono hB.size)).setCell (p := ⟨w.heap.size + 1 + 1, 0, none⟩) (by simp; omega) (.bool false)).setCell (p := ⟨w.heap.size + 1 + 1, 1, none⟩) (by simp; omega) (.slice none 0 0)
    clear hB hb1 H H'
    go_wp2_with fail
    exact bodyPost_ret (v := .tuple #[.agg #[.bool false, .slice none 0 0], .int .i64 1]) (by simp [results, Try.results63, go_sem, s0, s1]) rfl ⟨_, _, _, _, _, _, rfl, Nums.nil _, HR.out, hBB⟩
  | true =>
  cases hr' : rightI m ys with
  | false =>
    have HR : Hid (Res2I n zs m ys (iv n zs + iv m ys) false [] 1) := Res2I.bad _ (by rw [hr, hr']; rfl)
    go_enter Try.func63, Try.ntmps63
    go_wp2_with fail
    refine (iright_any _ _ _ _ _ _ H).mono ?_
    rintro e w1 ⟨rfl, hb1⟩
    rw [hr]
    obtain ⟨⟨c0, c1⟩, ⟨d0, d1⟩, -, -⟩ := held222 hb1
    go_wp2_with fail
    refine (iright_any _ _ _ _ _ _ (H'.below hb1)).mono ?_
    rintro e w2 ⟨rfl, hb2⟩
    rw [hr']
    have hb12 := hb1.trans (hb2.mono hb1.size)
    obtain ⟨-, -, ⟨s0, s1⟩, g0, g1⟩ := held222 hb12
    have hBB := ((hB.trans (hb12.mono hB.size)).setCell (p := ⟨w.heap.size + 1 + 1, 0, none⟩) (by simp; omega) (.bool false)).setCell (p := ⟨w.heap.size + 1 + 1, 1, none⟩) (by simp; omega) (.slice none 0 0)
    clear hB hb1 hb2 hb12 H H' c0 c1 d0 d1
    go_wp2_with fail
    exact bodyPost_ret (v := .tuple #[.agg #[.bool false, .slice none 0 0], .int .i64 1]) (by simp [results, Try.results63, go_sem, s0, s1]) rfl ⟨_, _, _, _, _, _, rfl, Nums.nil _, HR.out, hBB⟩
  | true =>
    go_enter Try.func63, Try.ntmps63
    go_wp2_with fail
    refine (iright_any _ _ _ _ _ _ H).mono ?_
    rintro e w1 ⟨rfl, hb1⟩
    rw [hr]
    obtain ⟨⟨c0, c1⟩, ⟨d0, d1⟩, -, -⟩ := held222 hb1
    go_wp2_with fail
    refine (iright_any _ _ _ _ _ _ (H'.below hb1)).mono ?_
    rintro e w2 ⟨rfl, hb2⟩
    rw [hr']
    have hb12 := hb1.trans (hb2.mono hb1.size)
    clear c0 c1 d0 d1
    obtain ⟨⟨c0, c1⟩, ⟨d0, d1⟩, -, -⟩ := held222 hb12
    have K := H.below hb12
    have K' := H'.below hb12
    by_cases hnm : n = m
    · subst hnm
      have hbne : (n == n) = true := by simp
      go_wp2_with fail
      refine (add_any _ _ _ _ _ _ _ _ _ K K').mono ?_
      rintro e w3 ⟨xa, xn, xc, ls, xe, rfl, hx, hxr, -, hb3⟩
      have hR := Res2I.ok hr hr' (add_same (n := n) (hxr.got (rightI_B hr) (rightI_B hr')))
      have HR : Hid (Res2I n zs n ys (iv n zs + iv n ys) (n && decide (0 < ls.length)) ls xe) := hR
      have hb13 := hb12.trans (hb3.mono hb12.size)
      clear c0 c1 d0 d1 hxr hR
      obtain ⟨⟨c0, c1⟩, ⟨d0, d1⟩, -, -⟩ := held222 hb13
      go_wp2_with fail
      refine (signed_any _ _ _ _ _ _ hx).mono ?_
      rintro e w7 ⟨rfl, hb7⟩
      obtain ⟨q, hq⟩ : ∃ q, q = (n && decide (0 < ls.length)) := ⟨_, rfl⟩
      rw [← hq]
      rw [← hq] at HR
      clear hq c0 c1 d0 d1
      have hb17 := hb13.trans (hb7.mono hb13.size)
      obtain ⟨⟨c0, c1⟩, ⟨d0, d1⟩, ⟨s0, s1⟩, g0, g1⟩ := held222 hb17
      have hx2 := (hx.below hb7).put2 s0 s1 (.bool q) (.slice xa xn xc)
      have hBB := ((hB.trans (hb17.mono hB.size)).setCell (p := ⟨w.heap.size + 1 + 1, 0, none⟩) (by simp; omega) (.bool q)).setCell (p := ⟨w.heap.size + 1 + 1, 1, none⟩) (by simp; omega) (.slice xa xn xc)
      clear hB hb1 hb2 hb12 hb3 hb13 hb7 hb17 H H' K K' hx hr hr'
      go_wp2_with fail
      exact bodyPost_ret (v := .tuple #[.agg #[.bool q, .slice xa xn xc], .int .i64 xe]) (by simp [results, Try.results63, go_sem, s0, s1]) rfl ⟨_, _, _, _, _, _, rfl, hx2, HR.out, hBB⟩
    · have hbne : (n == m) = false := by simp [hnm]
      go_wp2_with fail
      refine (apart_any _ _ _ _ _ _ _ _ _ _ _ K K' hr hr' hnm).mono ?_
      rintro e w3 ⟨q, xa, xn, xc, ls, rfl, hx, hxr, hb3⟩
      have hR := Res2I.ok hr hr' hxr
      have HR : Hid (Res2I n zs m ys (iv n zs + iv m ys) q ls 0) := hR
      have hb13 := hb12.trans (hb3.mono hb12.size)
      clear c0 c1 d0 d1 hxr hR
      obtain ⟨⟨c0, c1⟩, ⟨d0, d1⟩, ⟨s0, s1⟩, g0, g1⟩ := held222 hb13
      have hx2 := hx.put2 s0 s1 (.bool q) (.slice xa xn xc)
      have hBB := ((hB.trans (hb13.mono hB.size)).setCell (p := ⟨w.heap.size + 1 + 1, 0, none⟩) (by simp; omega) (.bool q)).setCell (p := ⟨w.heap.size + 1 + 1, 1, none⟩) (by simp; omega) (.slice xa xn xc)
      clear hB hb1 hb2 hb12 hb3 hb13 H H' K K' hx hr hr'
      go_wp2_with fail
      exact bodyPost_ret (v := .tuple #[.agg #[.bool q, .slice xa xn xc], .int .i64 0]) (by simp [results, Try.results63, go_sem, s0, s1]) rfl ⟨_, _, _, _, _, _, rfl, hx2, HR.out, hBB⟩

set_option maxHeartbeats 1000000 in
theorem imul_any (n m : Bool) (a b : Option Addr) (la ca lb cb : Nat) (zs ys : List Int) (w : World) (h : Nums w a la ca zs) (h' : Nums w b lb cb ys) :
    Calls Try.prog 29 #[.agg #[.bool n, .slice a la ca], .agg #[.bool m, .slice b lb cb]] w fun e w' => ∃ q a' n' c' ls err, e = .returned (.tuple #[.agg #[.bool q, .slice a' n' c'], .int .i64 err]) ∧ Nums w' a' n' c' ls ∧ Res2I n zs m ys (iv n zs * iv m ys) q ls err ∧ Below w.heap.size w w' := by
  have hB := (((Below.refl w.heap.size w).alloc (Nat.le_refl _) (.cells #[.bool n, .slice a la ca] 28)).alloc (by simp) (.cells #[.bool m, .slice b lb cb] 28)).alloc (by simp; omega) (.cells #[.bool false, .slice none 0 0] 28)
  have H := h.below hB
  have H' := h'.below hB
  cases hr : rightI n zs with
  | false =>
    have HR : Hid (Res2I n zs m ys (iv n zs * iv m ys) false [] 1) := Res2I.bad _ (by rw [hr]; rfl)
    go_enter Try.func29, Try.ntmps29
    go_wp2_with fail
    refine (iright_any _ _ _ _ _ _ H).mono ?_
    rintro e w1 ⟨rfl, hb1⟩
    rw [hr]
    obtain ⟨⟨c0, c1⟩, ⟨d0, d1⟩, ⟨s0, s1⟩, g0, g1⟩ := held222 hb1
    have hBB := ((hB.trans (hb1.mono hB.size)).setCell (p := ⟨w.heap.size + 1 + 1, 0, none⟩) (by simp; omega) (.bool false)).setCell (p := ⟨w.heap.size + 1 + 1, 1, none⟩) (by simp; omega) (.slice none 0 0)
    clear hB hb1 H H'
    go_wp2_with fail
    exact bodyPost_ret (v := .tuple #[.agg #[.bool false, .slice none 0 0], .int .i64 1]) (by simp [results, Try.results29, go_sem, s0, s1]) rfl ⟨_, _, _, _, _, _, rfl, Nums.nil _, HR.out, hBB⟩
  | true =>
  cases hr' : rightI m ys with
  | false =>
    have HR : Hid (Res2I n zs m ys (iv n zs * iv m ys) false [] 1) := Res2I.bad _ (by rw [hr, hr']; rfl)
    go_enter Try.func29, Try.ntmps29
    go_wp2_with fail
    refine (iright_any _ _ _ _ _ _ H).mono ?_
    rintro e w1 ⟨rfl, hb1⟩
    rw [hr]
    obtain ⟨⟨c0, c1⟩, ⟨d0, d1⟩, -, -⟩ := held222 hb1
    go_wp2_with fail
    refine (iright_any _ _ _ _ _ _ (H'.below hb1)).mono ?_
    rintro e w2 ⟨rfl, hb2⟩
    rw [hr']
    have hb12 := hb1.trans (hb2.mono hb1.size)
    obtain ⟨-, -, ⟨s0, s1⟩, g0, g1⟩ := held222 hb12
    have hBB := ((hB.trans (hb12.mono hB.size)).setCell (p := ⟨w.heap.size + 1 + 1, 0, none⟩) (by simp; omega) (.bool false)).setCell (p := ⟨w.heap.size + 1 + 1, 1, none⟩) (by simp; omega) (.slice none 0 0)
    clear hB hb1 hb2 hb12 H H' c0 c1 d0 d1
    go_wp2_with fail
    exact bodyPost_ret (v := .tuple #[.agg #[.bool false, .slice none 0 0], .int .i64 1]) (by simp [results, Try.results29, go_sem, s0, s1]) rfl ⟨_, _, _, _, _, _, rfl, Nums.nil _, HR.out, hBB⟩
  | true =>
    obtain ⟨em, hne⟩ : ∃ em, (n == m) = em := ⟨_, rfl⟩
    have HN : Hid ((!em) = decide (n ≠ m)) := by show _ = _; rw [← hne]; cases n <;> cases m <;> rfl
    go_enter Try.func29, Try.ntmps29
    go_wp2_with fail
    refine (iright_any _ _ _ _ _ _ H).mono ?_
    rintro e w1 ⟨rfl, hb1⟩
    rw [hr]
    obtain ⟨⟨c0, c1⟩, ⟨d0, d1⟩, -, -⟩ := held222 hb1
    go_wp2_with fail
    refine (iright_any _ _ _ _ _ _ (H'.below hb1)).mono ?_
    rintro e w2 ⟨rfl, hb2⟩
    rw [hr']
    have hb12 := hb1.trans (hb2.mono hb1.size)
    clear c0 c1 d0 d1
    obtain ⟨⟨c0, c1⟩, ⟨d0, d1⟩, -, -⟩ := held222 hb12
    have K := H.below hb12
    have K' := H'.below hb12
    go_wp2_with fail
    refine (mul_any _ _ _ _ _ _ _ _ _ K K').mono ?_
    rintro e w3 ⟨xa, xn, xc, ls, xe, rfl, hx, hxr, -, hb3⟩
    have hR := Res2I.ok hr hr' (mul_sign (n := n) (m := m) (hxr.got (rightI_B hr) (rightI_B hr')))
    rw [← HN.out] at hR
    have HR : Hid (Res2I n zs m ys (iv n zs * iv m ys) ((!em) && decide (0 < ls.length)) ls xe) := hR
    have hb13 := hb12.trans (hb3.mono hb12.size)
    clear c0 c1 d0 d1 hxr hR
    obtain ⟨⟨c0, c1⟩, ⟨d0, d1⟩, -, -⟩ := held222 hb13
    go_wp2_with fail
    refine (signed_any (!em) _ _ _ _ _ hx).mono ?_
    rintro e w7 ⟨rfl, hb7⟩
    obtain ⟨q, hq⟩ : ∃ q, q = ((!em) && decide (0 < ls.length)) := ⟨_, rfl⟩
    rw [← hq]
    rw [← hq] at HR
    clear hq c0 c1 d0 d1
    have hb17 := hb13.trans (hb7.mono hb13.size)
    obtain ⟨⟨c0, c1⟩, ⟨d0, d1⟩, ⟨s0, s1⟩, g0, g1⟩ := held222 hb17
    have hx2 := (hx.below hb7).put2 s0 s1 (.bool q) (.slice xa xn xc)
    have hBB := ((hB.trans (hb17.mono hB.size)).setCell (p := ⟨w.heap.size + 1 + 1, 0, none⟩) (by simp; omega) (.bool q)).setCell (p := ⟨w.heap.size + 1 + 1, 1, none⟩) (by simp; omega) (.slice xa xn xc)
    clear hB hb1 hb2 hb12 hb3 hb13 hb7 hb17 H H' K K' hx hr hr'
    go_wp2_with fail
    exact bodyPost_ret (v := .tuple #[.agg #[.bool q, .slice xa xn xc], .int .i64 xe]) (by simp [results, Try.results29, go_sem, s0, s1]) rfl ⟨_, _, _, _, _, _, rfl, hx2, HR.out, hBB⟩

end Go.Proofs.Ytchmlfjjgehbkaa

namespace Go.Proofs.Ytchmlfjjgehbkaa
open Go.RowKit

set_option maxHeartbeats 2000000 in
theorem isub_any (n m : Bool) (a b : Option Addr) (la ca lb cb : Nat) (zs ys : List Int) (w : World) (h : Nums w a la ca zs) (h' : Nums w b lb cb ys) :
    Calls Try.prog 43 #[.agg #[.bool n, .slice a la ca], .agg #[.bool m, .slice b lb cb]] w fun e w' => ∃ q a' n' c' ls err, e = .returned (.tuple #[.agg #[.bool q, .slice a' n' c'], .int .i64 err]) ∧ Nums w' a' n' c' ls ∧ Res2I n zs m ys (iv n zs - iv m ys) q ls err ∧ Below w.heap.size w w' := by
  have hB := (((Below.refl w.heap.size w).alloc (Nat.le_refl _) (.cells #[.bool n, .slice a la ca] 28)).alloc (by simp) (.cells #[.bool m, .slice b lb cb] 28)).alloc (by simp; omega) (.cells #[.bool false, .slice none 0 0] 28)
  have H := h.below hB
  have H' := h'.below hB
  cases hr' : rightI m ys with
  | false =>
    have HR : Hid (Res2I n zs m ys (iv n zs - iv m ys) false [] 1) := Res2I.bad _ (by rw [hr']; simp)
    go_enter Try.func43, Try.ntmps43
    go_wp2_with fail
    refine (iright_any _ _ _ _ _ _ H').mono ?_
    rintro e w1 ⟨rfl, hb1⟩
    rw [hr']
    obtain ⟨⟨c0, c1⟩, ⟨d0, d1⟩, ⟨s0, s1⟩, g0, g1⟩ := held222 hb1
    have hBB := ((hB.trans (hb1.mono hB.size)).setCell (p := ⟨w.heap.size + 1 + 1, 0, none⟩) (by simp; omega) (.bool false)).setCell (p := ⟨w.heap.size + 1 + 1, 1, none⟩) (by simp; omega) (.slice none 0 0)
    clear hB hb1 H H'
    go_wp2_with fail
    exact bodyPost_ret (v := .tuple #[.agg #[.bool false, .slice none 0 0], .int .i64 1]) (by simp [results, Try.results43, go_sem, s0, s1]) rfl ⟨_, _, _, _, _, _, rfl, Nums.nil _, HR.out, hBB⟩
  | true =>
      obtain ⟨nn, hnn⟩ : ∃ nn, nn = negN m ys := ⟨_, rfl⟩
      obtain ⟨nl, hnl⟩ : ∃ nl, nl = negL m ys := ⟨_, rfl⟩
      have HNN : Hid (nn = negN m ys ∧ nl = negL m ys) := ⟨hnn, hnl⟩
      clear hnn hnl
      go_enter Try.func43, Try.ntmps43
      go_wp2_with fail
      refine (iright_any _ _ _ _ _ _ H').mono ?_
      rintro e w1 ⟨rfl, hb1⟩
      rw [hr']
      obtain ⟨⟨c0, c1⟩, ⟨d0, d1⟩, ⟨s0, s1⟩, g0, g1⟩ := held222 hb1
      have K := H.below hb1
      have K' := H'.below hb1
      have hBB := hB.trans (hb1.mono hB.size)
      clear hB hb1 H H'
      have HNg : Hid (∀ wx, Below w1.heap.size w1 wx → Calls Try.prog 64 #[.agg #[.bool m, .slice b lb cb]] wx fun e w' => ∃ ya yn yc, e = .returned (.agg #[.bool nn, .slice ya yn yc]) ∧ (Nums w' ya yn yc nl ∧ Nums w' a la ca zs ∧ Below w1.heap.size w1 w') ∧ (w'.cell? ⟨w.heap.size, 0, none⟩ = some (.bool n) ∧ w'.cell? ⟨w.heap.size, 1, none⟩ = some (.slice a la ca))) := by
        intro wx hbx
        refine (ineg_any m _ _ _ _ wx (K'.below hbx)).mono ?_
        rintro e w' ⟨ya, yn, yc, rfl, hY, hb⟩
        have hb' := hbx.trans (hb.mono hbx.size)
        rw [← HNN.out.1]
        rw [← HNN.out.2] at hY
        exact ⟨ya, yn, yc, rfl, ⟨hY, K.below hb', hb'⟩, bkeep hb' c0 rfl, bkeep hb' c1 rfl⟩
      have HAd : Hid (∀ wx ya yn yc, Nums wx ya yn yc nl → Nums wx a la ca zs → Below w1.heap.size w1 wx → Calls Try.prog 63 #[.agg #[.bool n, .slice a la ca], .agg #[.bool nn, .slice ya yn yc]] wx fun e w' => ∃ q xa xn xc ls xe, e = .returned (.tuple #[.agg #[.bool q, .slice xa xn xc], .int .i64 xe]) ∧ (Nums w' xa xn xc ls ∧ Res2I n zs m ys (iv n zs - iv m ys) q ls xe ∧ Below w.heap.size w w') ∧
          (w'.cell? ⟨w.heap.size + 1 + 1, 0, none⟩ = some (.bool false) ∧ w'.cell? ⟨w.heap.size + 1 + 1, 1, none⟩ = some (.slice none 0 0)) ∧ w'.frozen? ⟨w.heap.size + 1 + 1, 0, none⟩ = false ∧ w'.frozen? ⟨w.heap.size + 1 + 1, 1, none⟩ = false) := by
        intro wx ya yn yc hy ha hbx
        refine (iadd_any n nn _ _ _ _ _ _ _ _ wx ha hy).mono ?_
        rintro e w' ⟨q, xa, xn, xc, ls, xe, rfl, hX, hres, hb⟩
        rw [HNN.out.1, HNN.out.2] at hres
        have hb' := hbx.trans (hb.mono hbx.size)
        exact ⟨q, xa, xn, xc, ls, xe, rfl, ⟨hX, sub_of_add hr' hres, hBB.trans (hb'.mono hBB.size)⟩, ⟨bkeep hb' s0 rfl, bkeep hb' s1 rfl⟩, (hb'.frozen (p := ⟨w.heap.size + 1 + 1, 0, none⟩) (World.block_lt_of_cell? _ _ s0)).trans g0, (hb'.frozen (p := ⟨w.heap.size + 1 + 1, 1, none⟩) (World.block_lt_of_cell? _ _ s1)).trans g1⟩
      clear K K' hBB HNN s0 s1 g0 g1
      go_wp2_with fail
      go_region_with (first
        | (go_at_call 64; refine (HNg.out _ ?_).mono ?_; (exact ⟨rfl, rfl, rfl, Nat.le_refl _, fun _ _ => rfl⟩); rintro e w3 ⟨ya, yn, yc, rfl, hY, p0, p1⟩)
        | (go_at_call 63; refine (HAd.out _ ya yn yc ?_ ?_ ?_).mono ?_; (exact hY.1.alike (fun _ => rfl)); (exact hY.2.1.alike (fun _ => rfl)); (exact ⟨hY.2.2.os, hY.2.2.tape, hY.2.2.output, hY.2.2.size, hY.2.2.block⟩); rintro e w4 ⟨q, xa, xn, xc, ls, xe, rfl, hX, ⟨s0, s1⟩, g0, g1⟩))
      all_goals
        have hX2 := hX.1.put2 s0 s1 (.bool q) (.slice xa xn xc)
        have hB9 := (hX.2.2.setCell (p := ⟨w.heap.size + 1 + 1, 0, none⟩) (by simp; omega) (.bool q)).setCell (p := ⟨w.heap.size + 1 + 1, 1, none⟩) (by simp; omega) (.slice xa xn xc)
        have HR : Hid (Res2I n zs m ys (iv n zs - iv m ys) q ls xe) := hX.2.1
        clear HNg HAd hX hY
        go_wp2_with fail
        exact bodyPost_ret (v := .tuple #[.agg #[.bool q, .slice xa xn xc], .int .i64 xe]) (by simp [results, Try.results43, go_sem, s0, s1]) rfl ⟨_, _, _, _, _, _, rfl, hX2, HR.out, hB9⟩
end Go.Proofs.Ytchmlfjjgehbkaa

namespace Go.Proofs.Ytchmlfjjgehbkaa
open Go.RowKit

end Go.Proofs.Ytchmlfjjgehbkaa

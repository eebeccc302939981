/-
  Contracts of modint's apart, Add, Sub and Mul.
  The contract of modint.Sub.
  Contracts of modint's oneFurther and Floor.
-/
import Derived.Test.YtpeefhkadeoioaaModA
import Derived.Test.YtpeefhkadeoioaaNatC
import Derived.Deep.RegionWith
import Derived.BigRegion
namespace Go.Proofs.Ytpeefhkadeoioaa
open Go.RowKit

set_option maxHeartbeats 1000000 in
theorem imul_any (n m : Bool) (a b : Option Addr) (la ca lb cb : Nat) (zs ys : List Int) (w : World) (h : Nums w a la ca zs) (h' : Nums w b lb cb ys) :
    Calls Try.prog 21 #[.agg #[.bool n, .slice a la ca], .agg #[.bool m, .slice b lb cb]] w fun e w' => ∃ q a' n' c' ls err, e = .returned (.tuple #[.agg #[.bool q, .slice a' n' c'], .int .i64 err]) ∧ Nums w' a' n' c' ls ∧ Res2I n zs m ys (iv n zs * iv m ys) q ls err ∧ Below w.heap.size w w' := by
  have hB := (((Below.refl w.heap.size w).alloc (Nat.le_refl _) (.cells #[.bool n, .slice a la ca] 45)).alloc (by simp) (.cells #[.bool m, .slice b lb cb] 45)).alloc (by simp; omega) (.cells #[.bool false, .slice none 0 0] 45)
  have H := h.below hB
  have H' := h'.below hB
  cases hr : rightI n zs with
  | false =>
    have HR : Hid (Res2I n zs m ys (iv n zs * iv m ys) false [] 1) := Res2I.bad _ (by rw [hr]; rfl)
    go_enter Try.func21, Try.ntmps21
    go_wp2_with fail
    refine (iright_any _ _ _ _ _ _ H).mono ?_
    rintro e w1 ⟨rfl, hb1⟩
    rw [hr]
    obtain ⟨⟨c0, c1⟩, ⟨d0, d1⟩, ⟨s0, s1⟩, g0, g1⟩ := held222 hb1
    have hBB := ((hB.trans (hb1.mono hB.size)).setCell (p := ⟨w.heap.size + 1 + 1, 0, none⟩) (by simp; omega) (.bool false)).setCell (p := ⟨w.heap.size + 1 + 1, 1, none⟩) (by simp; omega) (.slice none 0 0)
    clear hB hb1 H H'
    go_wp2_with fail
    exact bodyPost_ret (v := .tuple #[.agg #[.bool false, .slice none 0 0], .int .i64 1]) (by simp [results, Try.results21, go_sem, s0, s1]) rfl ⟨_, _, _, _, _, _, rfl, Nums.nil _, HR.out, hBB⟩
  | true =>
  cases hr' : rightI m ys with
  | false =>
    have HR : Hid (Res2I n zs m ys (iv n zs * iv m ys) false [] 1) := Res2I.bad _ (by rw [hr, hr']; rfl)
    go_enter Try.func21, Try.ntmps21
    go_wp2_with fail
    refine (iright_any _ _ _ _ _ _ H).mono ?_
    rintro e w1 ⟨rfl, hb1⟩
    rw [hr]
    obtain ⟨⟨c0, c1⟩, ⟨d0, d1⟩, -, -⟩ := held222 hb1
    go_wp2_with fail
    refine (iright_any _ _ _ _ _ _ (H'.below hb1)).mono ?_
    rintro e w2 ⟨rfl, hb2⟩
    rw [hr']
    have hb12 := hb1.trans (hb2.mono hb1.size)
    obtain ⟨-, -, ⟨s0, s1⟩, g0, g1⟩ := held222 hb12
    have hBB := ((hB.trans (hb12.mono hB.size)).setCell (p := ⟨w.heap.size + 1 + 1, 0, none⟩) (by simp; omega) (.bool false)).setCell (p := ⟨w.heap.size + 1 + 1, 1, none⟩) (by simp; omega) (.slice none 0 0)
    clear hB hb1 hb2 hb12 H H' c0 c1 d0 d1
    go_wp2_with fail
    exact bodyPost_ret (v := .tuple #[.agg #[.bool false, .slice none 0 0], .int .i64 1]) (by simp [results, Try.results21, go_sem, s0, s1]) rfl ⟨_, _, _, _, _, _, rfl, Nums.nil _, HR.out, hBB⟩
  | true =>
    obtain ⟨em, hne⟩ : ∃ em, (n == m) = em := ⟨_, rfl⟩
    have HN : Hid ((!em) = decide (n ≠ m)) := by show _ = _; rw [← hne]; cases n <;> cases m <;> rfl
    go_enter Try.func21, Try.ntmps21
    go_wp2_with fail
    refine (iright_any _ _ _ _ _ _ H).mono ?_
    rintro e w1 ⟨rfl, hb1⟩
    rw [hr]
    obtain ⟨⟨c0, c1⟩, ⟨d0, d1⟩, -, -⟩ := held222 hb1
    go_wp2_with fail
    refine (iright_any _ _ _ _ _ _ (H'.below hb1)).mono ?_
    rintro e w2 ⟨rfl, hb2⟩
    rw [hr']
    have hb12 := hb1.trans (hb2.mono hb1.size)
    clear c0 c1 d0 d1
    obtain ⟨⟨c0, c1⟩, ⟨d0, d1⟩, -, -⟩ := held222 hb12
    have K := H.below hb12
    have K' := H'.below hb12
    go_wp2_with fail
    refine (mul_any _ _ _ _ _ _ _ _ _ K K').mono ?_
    rintro e w3 ⟨xa, xn, xc, ls, xe, rfl, hx, hxr, -, hb3⟩
    have hR := Res2I.ok hr hr' (mul_sign (n := n) (m := m) (hxr.got (rightI_B hr) (rightI_B hr')))
    rw [← HN.out] at hR
    have HR : Hid (Res2I n zs m ys (iv n zs * iv m ys) ((!em) && decide (0 < ls.length)) ls xe) := hR
    have hb13 := hb12.trans (hb3.mono hb12.size)
    clear c0 c1 d0 d1 hxr hR
    obtain ⟨⟨c0, c1⟩, ⟨d0, d1⟩, -, -⟩ := held222 hb13
    go_wp2_with fail
    refine (signed_any (!em) _ _ _ _ _ hx).mono ?_
    rintro e w7 ⟨rfl, hb7⟩
    obtain ⟨q, hq⟩ : ∃ q, q = ((!em) && decide (0 < ls.length)) := ⟨_, rfl⟩
    rw [← hq]
    rw [← hq] at HR
    clear hq c0 c1 d0 d1
    have hb17 := hb13.trans (hb7.mono hb13.size)
    obtain ⟨⟨c0, c1⟩, ⟨d0, d1⟩, ⟨s0, s1⟩, g0, g1⟩ := held222 hb17
    have hx2 := (hx.below hb7).put2 s0 s1 (.bool q) (.slice xa xn xc)
    have hBB := ((hB.trans (hb17.mono hB.size)).setCell (p := ⟨w.heap.size + 1 + 1, 0, none⟩) (by simp; omega) (.bool q)).setCell (p := ⟨w.heap.size + 1 + 1, 1, none⟩) (by simp; omega) (.slice xa xn xc)
    clear hB hb1 hb2 hb12 hb3 hb13 hb7 hb17 H H' K K' hx hr hr'
    go_wp2_with fail
    exact bodyPost_ret (v := .tuple #[.agg #[.bool q, .slice xa xn xc], .int .i64 xe]) (by simp [results, Try.results21, go_sem, s0, s1]) rfl ⟨_, _, _, _, _, _, rfl, hx2, HR.out, hBB⟩

end Go.Proofs.Ytpeefhkadeoioaa

namespace Go.Proofs.Ytpeefhkadeoioaa
open Go.RowKit

end Go.Proofs.Ytpeefhkadeoioaa

namespace Go.Proofs.Ytpeefhkadeoioaa
open Go.RowKit

set_option maxHeartbeats 1000000 in
theorem oneFurther_any (a b c : Option Addr) (la ca lb cb lc cc : Nat) (qs rs ys : List Int) (w : World) (h : Nums w a la ca qs) (h' : Nums w b lb cb rs) (h2 : Nums w c lc cc ys) (hq : rightB qs = true) (hr : rightB rs = true) (hy : rightB ys = true)
    (h64 : val 18446744073709551616 qs + 1 < 18446744073709551616 ^ 64) (hle : val 18446744073709551616 rs ≤ val 18446744073709551616 ys) :
    Calls Try.prog 35 #[.slice a la ca, .slice b lb cb, .slice c lc cc] w fun e w' => ∃ a1 k1 c1 ms a2 k2 c2 ls, e = .returned (.tuple #[.slice a1 k1 c1, .slice a2 k2 c2]) ∧ Nums w' a1 k1 c1 ms ∧ Nums w' a2 k2 c2 ls ∧ Res (val 18446744073709551616 qs + 1) ms 0 ∧ Res (val 18446744073709551616 ys - val 18446744073709551616 rs) ls 0 ∧ Below w.heap.size w w' := by
  have hd := h'.digs
  have hd' := h2.digs
  have H64 := (show Hid _ from And.intro h64 hle)
  clear h64 hle
  go_enter Try.func35, Try.ntmps35
  go_wp2_with fail
  refine (of_any 1 _ (by omega)).mono ?_
  rintro e w1 ⟨oa, on, oc, rfl, ho, hb1⟩
  go_wp2_with fail
  refine (add_any _ _ _ _ _ _ _ _ _ (h.below hb1) ho).mono ?_
  rintro e w2 ⟨ma, mn, mc, ms, me, rfl, hM, hMr, -, hb2⟩
  have hR := hMr.got hq (by decide)
  rw [show val 18446744073709551616 (ofZ 1) = 1 by decide] at hR
  obtain ⟨rfl, -⟩ := res_fits hR H64.out.1
  have HR : Hid (Res (val 18446744073709551616 qs + 1) ms 0) := hR
  have hb12 := hb1.trans (hb2.mono hb1.size)
  clear hMr hR hb1 hb2 ho
  go_wp2_with fail
  refine (sub_any _ _ _ _ _ _ _ _ _ (h2.below hb12) (h'.below hb12)).mono ?_
  rintro e w3 ⟨xa, xn, xc, ls, xe, rfl, hx, hxr, -, hb3⟩
  have hR := (hxr.got hd' hd hy hr H64.out.2).2
  have HR2 : Hid (Res (val 18446744073709551616 ys - val 18446744073709551616 rs) ls 0) := hR
  have hM3 := hM.below hb3
  have hB3 := hb12.trans (hb3.mono hb12.size)
  clear hxr hR hb12 hb3 hM
  go_wp2_with fail
  go_ret2
  exact ⟨_, _, _, _, _, _, _, _, rfl, hM3, hx, HR.out, HR2.out, hB3⟩

set_option maxHeartbeats 2000000 in
theorem ifloor_any (n m : Bool) (a b : Option Addr) (la ca lb cb : Nat) (zs ys : List Int) (w : World) (h : Nums w a la ca zs) (h' : Nums w b lb cb ys) :
    Calls Try.prog 23 #[.agg #[.bool n, .slice a la ca], .agg #[.bool m, .slice b lb cb]] w fun e w' => ∃ p a1 k1 c1 qs r a2 k2 c2 rs err, e = .returned (.tuple #[.agg #[.bool p, .slice a1 k1 c1], .agg #[.bool r, .slice a2 k2 c2], .int .i64 err]) ∧ (Nums w' a1 k1 c1 qs ∧ Nums w' a2 k2 c2 rs) ∧ ResFloor n zs m ys p qs r rs err ∧ Below w.heap.size w w' := by
  have hB := ((((Below.refl w.heap.size w).alloc (Nat.le_refl _) (.cells #[.bool n, .slice a la ca] 45)).alloc (by simp) (.cells #[.bool m, .slice b lb cb] 45)).alloc (by simp; omega) (.cells #[.bool false, .slice none 0 0] 45)).alloc (by simp; omega) (.cells #[.bool false, .slice none 0 0] 45)
  have H := h.below hB
  have H' := h'.below hB
  have hd := h.digs
  have hd' := h'.digs
  cases hr : rightI n zs with
  | false =>
    have HR : Hid (ResFloor n zs m ys false [] false [] 1) := ResFloor.bad (.inl (by rw [hr]; rfl))
    go_enter Try.func23, Try.ntmps23
    go_wp2_with fail
    refine (iright_any _ _ _ _ _ _ H).mono ?_
    rintro e w1 ⟨rfl, hb1⟩
    rw [hr]
    obtain ⟨⟨c0, c1⟩, ⟨d0, d1⟩, ⟨s0, s1⟩, ⟨t0, t1⟩, ⟨g0, g1⟩, k0, k1⟩ := held2222 hb1
    have hBB := bput4 (hB.trans ((hb1).mono hB.size)) (g := w.heap.size + 1 + 1) (g' := w.heap.size + 1 + 1 + 1) (by omega) (by omega) (.bool false) (.slice none 0 0) (.bool false) (.slice none 0 0)
    have hcc := put4_cells (by omega) s0 s1 t0 t1 (.bool false) (.slice none 0 0) (.bool false) (.slice none 0 0)
    have HCC := (show Hid _ from hcc)
    clear hB H H' hcc hb1 c0 c1 d0 d1
    go_wp2_with fail
    obtain ⟨⟨x0, x1⟩, y0, y1⟩ := HCC.out
    exact bodyPost_ret (v := .tuple #[.agg #[.bool false, .slice none 0 0], .agg #[.bool false, .slice none 0 0], .int .i64 1]) (by simp [results, Try.results23, go_sem, x0, x1, y0, y1]) rfl ⟨_, _, _, _, [], _, _, _, _, [], _, rfl, ⟨Nums.nil _, Nums.nil _⟩, HR.out, hBB⟩
  | true =>
  cases hr' : rightI m ys with
  | false =>
    have HR : Hid (ResFloor n zs m ys false [] false [] 1) := ResFloor.bad (.inl (by rw [hr, hr']; rfl))
    go_enter Try.func23, Try.ntmps23
    go_wp2_with fail
    refine (iright_any _ _ _ _ _ _ H).mono ?_
    rintro e w1 ⟨rfl, hb1⟩
    rw [hr]
    obtain ⟨⟨c0, c1⟩, ⟨d0, d1⟩, -⟩ := held2222 hb1
    go_wp2_with fail
    refine (iright_any _ _ _ _ _ _ (H'.below hb1)).mono ?_
    rintro e w2 ⟨rfl, hb2⟩
    rw [hr']
    have hb12 := hb1.trans (hb2.mono hb1.size)
    clear c0 c1 d0 d1 hb2
    obtain ⟨⟨c0, c1⟩, ⟨d0, d1⟩, ⟨s0, s1⟩, ⟨t0, t1⟩, ⟨g0, g1⟩, k0, k1⟩ := held2222 hb12
    have hBB := bput4 (hB.trans ((hb12).mono hB.size)) (g := w.heap.size + 1 + 1) (g' := w.heap.size + 1 + 1 + 1) (by omega) (by omega) (.bool false) (.slice none 0 0) (.bool false) (.slice none 0 0)
    have hcc := put4_cells (by omega) s0 s1 t0 t1 (.bool false) (.slice none 0 0) (.bool false) (.slice none 0 0)
    have HCC := (show Hid _ from hcc)
    clear hB H H' hcc hb1 hb12 c0 c1 d0 d1
    go_wp2_with fail
    obtain ⟨⟨x0, x1⟩, y0, y1⟩ := HCC.out
    exact bodyPost_ret (v := .tuple #[.agg #[.bool false, .slice none 0 0], .agg #[.bool false, .slice none 0 0], .int .i64 1]) (by simp [results, Try.results23, go_sem, x0, x1, y0, y1]) rfl ⟨_, _, _, _, [], _, _, _, _, [], _, rfl, ⟨Nums.nil _, Nums.nil _⟩, HR.out, hBB⟩
  | true =>
  cases m with
  | true =>
    have HR : Hid (ResFloor n zs true ys false [] false [] 1) := ResFloor.bad (.inr rfl)
    go_enter Try.func23, Try.ntmps23
    go_wp2_with fail
    refine (iright_any _ _ _ _ _ _ H).mono ?_
    rintro e w1 ⟨rfl, hb1⟩
    rw [hr]
    obtain ⟨⟨c0, c1⟩, ⟨d0, d1⟩, -⟩ := held2222 hb1
    go_wp2_with fail
    refine (iright_any _ _ _ _ _ _ (H'.below hb1)).mono ?_
    rintro e w2 ⟨rfl, hb2⟩
    rw [hr']
    have hb12 := hb1.trans (hb2.mono hb1.size)
    clear c0 c1 d0 d1 hb2
    obtain ⟨⟨c0, c1⟩, ⟨d0, d1⟩, ⟨s0, s1⟩, ⟨t0, t1⟩, ⟨g0, g1⟩, k0, k1⟩ := held2222 hb12
    have hBB := bput4 (hB.trans ((hb12).mono hB.size)) (g := w.heap.size + 1 + 1) (g' := w.heap.size + 1 + 1 + 1) (by omega) (by omega) (.bool false) (.slice none 0 0) (.bool false) (.slice none 0 0)
    have hcc := put4_cells (by omega) s0 s1 t0 t1 (.bool false) (.slice none 0 0) (.bool false) (.slice none 0 0)
    have HCC := (show Hid _ from hcc)
    clear hB H H' hcc hb1 hb12 c0 c1
    go_wp2_with fail
    obtain ⟨⟨x0, x1⟩, y0, y1⟩ := HCC.out
    exact bodyPost_ret (v := .tuple #[.agg #[.bool false, .slice none 0 0], .agg #[.bool false, .slice none 0 0], .int .i64 1]) (by simp [results, Try.results23, go_sem, x0, x1, y0, y1]) rfl ⟨_, _, _, _, [], _, _, _, _, [], _, rfl, ⟨Nums.nil _, Nums.nil _⟩, HR.out, hBB⟩
  | false =>
    go_enter Try.func23, Try.ntmps23
    go_wp2_with fail
    refine (iright_any _ _ _ _ _ _ H).mono ?_
    rintro e w1 ⟨rfl, hb1⟩
    rw [hr]
    obtain ⟨⟨c0, c1⟩, ⟨d0, d1⟩, -⟩ := held2222 hb1
    go_wp2_with fail
    refine (iright_any _ _ _ _ _ _ (H'.below hb1)).mono ?_
    rintro e w2 ⟨rfl, hb2⟩
    rw [hr']
    have hb12 := hb1.trans (hb2.mono hb1.size)
    clear c0 c1 d0 d1 hb2
    obtain ⟨⟨c0, c1⟩, ⟨d0, d1⟩, -⟩ := held2222 hb12
    have K := H.below hb12
    have K' := H'.below hb12
    go_wp2_with fail
    refine (div_any _ _ _ _ _ _ _ _ _ K K').mono ?_
    rintro e w3 ⟨qa, qn, qc, qs, ra, rn, rc, rs, err, rfl, hQ, hRr, hD, -, -, -, hb3⟩
    have hb13 := hb12.trans (hb3.mono hb12.size)
    have hrl := hRr.hlen
    have hrm := hRr.hmax
    have hrc := hRr.hcap
    have K3 := K'.below hb3
    unfold maxLen at hrm
    clear c0 c1 d0 d1 K K' hb1 hb12 hb3
    cases n with
    | false =>
      have hF := floor_direct hr hr' hD (.inl rfl)
      have HR : Hid (ResFloor false zs false ys (false && decide (0 < qs.length)) qs false rs err) := hF
      clear hD hF hrl hr hr' K3
      obtain ⟨⟨c0, c1⟩, ⟨d0, d1⟩, -⟩ := held2222 hb13
      go_wp2_with fail
      refine (signed_any false _ _ _ _ _ hQ).mono ?_
      rintro e w8 ⟨rfl, hb8⟩
      obtain ⟨q, hq⟩ : ∃ q, q = (false && decide (0 < qs.length)) := ⟨_, rfl⟩
      rw [← hq]
      rw [← hq] at HR
      have Q8 := (hQ).below hb8
      have R8 := (hRr).below hb8
      have hb18 := (hb13).trans (hb8.mono (hb13).size)
      clear hq c0 c1 d0 d1
      obtain ⟨⟨c0, c1⟩, ⟨d0, d1⟩, -⟩ := held2222 hb18
      go_wp2_with fail
      refine (signed_any false _ _ _ _ _ R8).mono ?_
      rintro e w9 ⟨rfl, hb9⟩
      rw [Bool.false_and]
      have hb19 := hb18.trans (hb9.mono hb18.size)
      clear c0 c1 d0 d1
      obtain ⟨-, -, ⟨s0, s1⟩, ⟨t0, t1⟩, ⟨g0, g1⟩, k0, k1⟩ := held2222 hb19
      have hBB := bput4 (hB.trans (hb19.mono hB.size)) (g := w.heap.size + 1 + 1) (g' := w.heap.size + 1 + 1 + 1) (by omega) (by omega) (.bool q) (.slice qa qn qc) (.bool false) (.slice ra rn rc)
      have hcc := put4_cells (by omega) s0 s1 t0 t1 (.bool q) (.slice qa qn qc) (.bool false) (.slice ra rn rc)
      have Q9 := (Q8.below hb9).put4 (by omega) s0 s1 t0 t1 (.bool q) (.slice qa qn qc) (.bool false) (.slice ra rn rc)
      have R9 := (R8.below hb9).put4 (by omega) s0 s1 t0 t1 (.bool q) (.slice qa qn qc) (.bool false) (.slice ra rn rc)
      have HCC := (show Hid _ from hcc)
      have HQ9 := (show Hid _ from And.intro Q9 (And.intro R9 hBB))
      clear hB H H' hcc Q8 R8 hb8 hb9 hb18 hb19 Q9 R9 hBB hQ hRr hb13
      go_wp2_with fail
      obtain ⟨⟨x0, x1⟩, y0, y1⟩ := HCC.out
      obtain ⟨Q9, R9, hBB⟩ := HQ9.out
      exact bodyPost_ret (v := .tuple #[.agg #[.bool q, .slice qa qn qc], .agg #[.bool false, .slice ra rn rc], .int .i64 err]) (by simp [results, Try.results23, go_sem, x0, x1, y0, y1]) rfl ⟨_, _, _, _, qs, _, _, _, _, rs, _, rfl, ⟨Q9, R9⟩, HR.out, hBB⟩
    | true =>
    by_cases hc : rn = 0
    · have hF := floor_direct hr hr' hD (.inr (by omega))
      have HR : Hid (ResFloor true zs false ys (true && decide (0 < qs.length)) qs false rs err) := hF
      clear hD hF hrl hr hr' K3
      subst hc
      obtain ⟨⟨c0, c1⟩, ⟨d0, d1⟩, -⟩ := held2222 hb13
      go_wp2_with fail
      refine (signed_any true _ _ _ _ _ hQ).mono ?_
      rintro e w8 ⟨rfl, hb8⟩
      obtain ⟨q, hq⟩ : ∃ q, q = (true && decide (0 < qs.length)) := ⟨_, rfl⟩
      rw [← hq]
      rw [← hq] at HR
      have Q8 := (hQ).below hb8
      have R8 := (hRr).below hb8
      have hb18 := (hb13).trans (hb8.mono (hb13).size)
      clear hq c0 c1 d0 d1
      obtain ⟨⟨c0, c1⟩, ⟨d0, d1⟩, -⟩ := held2222 hb18
      go_wp2_with fail
      refine (signed_any false _ _ _ _ _ R8).mono ?_
      rintro e w9 ⟨rfl, hb9⟩
      rw [Bool.false_and]
      have hb19 := hb18.trans (hb9.mono hb18.size)
      clear c0 c1 d0 d1
      obtain ⟨-, -, ⟨s0, s1⟩, ⟨t0, t1⟩, ⟨g0, g1⟩, k0, k1⟩ := held2222 hb19
      have hBB := bput4 (hB.trans (hb19.mono hB.size)) (g := w.heap.size + 1 + 1) (g' := w.heap.size + 1 + 1 + 1) (by omega) (by omega) (.bool q) (.slice qa qn qc) (.bool false) (.slice ra 0 rc)
      have hcc := put4_cells (by omega) s0 s1 t0 t1 (.bool q) (.slice qa qn qc) (.bool false) (.slice ra 0 rc)
      have Q9 := (Q8.below hb9).put4 (by omega) s0 s1 t0 t1 (.bool q) (.slice qa qn qc) (.bool false) (.slice ra 0 rc)
      have R9 := (R8.below hb9).put4 (by omega) s0 s1 t0 t1 (.bool q) (.slice qa qn qc) (.bool false) (.slice ra 0 rc)
      have HCC := (show Hid _ from hcc)
      have HQ9 := (show Hid _ from And.intro Q9 (And.intro R9 hBB))
      clear hB H H' hcc Q8 R8 hb8 hb9 hb18 hb19 Q9 R9 hBB hQ hRr hb13
      go_wp2_with fail
      obtain ⟨⟨x0, x1⟩, y0, y1⟩ := HCC.out
      obtain ⟨Q9, R9, hBB⟩ := HQ9.out
      exact bodyPost_ret (v := .tuple #[.agg #[.bool q, .slice qa qn qc], .agg #[.bool false, .slice ra 0 rc], .int .i64 err]) (by simp [results, Try.results23, go_sem, x0, x1, y0, y1]) rfl ⟨_, _, _, _, qs, _, _, _, _, rs, _, rfl, ⟨Q9, R9⟩, HR.out, hBB⟩
    · have hr0 : (0 : Int) < (rn : Int) := by omega
      obtain ⟨rfl, hqr, h64, hle, hF⟩ := floor_further hr hr' hd hd' hD (by omega)
      have HF := (show Hid _ from hF)
      have hys := rightI_B hr'
      clear hD hF hrl hr hr' hc
      obtain ⟨⟨c0, c1⟩, ⟨d0, d1⟩, -⟩ := held2222 hb13
      go_wp2_with fail
      refine (oneFurther_any _ _ _ _ _ _ _ _ _ _ _ _ _ hQ hRr K3 hqr.1 hqr.2 hys h64 hle).mono ?_
      rintro e w4 ⟨ma, mn, mc, ms, xa, xn, xc, ls, rfl, hM, hX, hres, hres2, hb4⟩
      have HR : Hid (ResFloor true zs false ys (true && decide (0 < ms.length)) ms false ls 0) := HF.out ms ls hres hres2
      have hb14 := hb13.trans (hb4.mono hb13.size)
      clear c0 c1 d0 d1 hres hres2 HF hb13 hb4 hQ hRr K3 h64 hle
      obtain ⟨⟨c0, c1⟩, ⟨d0, d1⟩, -⟩ := held2222 hb14
      go_wp2_with fail
      refine (signed_any true _ _ _ _ _ hM).mono ?_
      rintro e w8 ⟨rfl, hb8⟩
      obtain ⟨q, hq⟩ : ∃ q, q = (true && decide (0 < ms.length)) := ⟨_, rfl⟩
      rw [← hq]
      rw [← hq] at HR
      have Q8 := (hM).below hb8
      have R8 := (hX).below hb8
      have hb18 := (hb14).trans (hb8.mono (hb14).size)
      clear hq c0 c1 d0 d1
      obtain ⟨⟨c0, c1⟩, ⟨d0, d1⟩, -⟩ := held2222 hb18
      go_wp2_with fail
      refine (signed_any false _ _ _ _ _ R8).mono ?_
      rintro e w9 ⟨rfl, hb9⟩
      rw [Bool.false_and]
      have hb19 := hb18.trans (hb9.mono hb18.size)
      clear c0 c1 d0 d1
      obtain ⟨-, -, ⟨s0, s1⟩, ⟨t0, t1⟩, ⟨g0, g1⟩, k0, k1⟩ := held2222 hb19
      have hBB := bput4 (hB.trans (hb19.mono hB.size)) (g := w.heap.size + 1 + 1) (g' := w.heap.size + 1 + 1 + 1) (by omega) (by omega) (.bool q) (.slice ma mn mc) (.bool false) (.slice xa xn xc)
      have hcc := put4_cells (by omega) s0 s1 t0 t1 (.bool q) (.slice ma mn mc) (.bool false) (.slice xa xn xc)
      have Q9 := (Q8.below hb9).put4 (by omega) s0 s1 t0 t1 (.bool q) (.slice ma mn mc) (.bool false) (.slice xa xn xc)
      have R9 := (R8.below hb9).put4 (by omega) s0 s1 t0 t1 (.bool q) (.slice ma mn mc) (.bool false) (.slice xa xn xc)
      have HCC := (show Hid _ from hcc)
      have HQ9 := (show Hid _ from And.intro Q9 (And.intro R9 hBB))
      clear hB H H' hcc Q8 R8 hb8 hb9 hb18 hb19 Q9 R9 hBB hM hX hb14
      go_wp2_with fail
      obtain ⟨⟨x0, x1⟩, y0, y1⟩ := HCC.out
      obtain ⟨Q9, R9, hBB⟩ := HQ9.out
      exact bodyPost_ret (v := .tuple #[.agg #[.bool q, .slice ma mn mc], .agg #[.bool false, .slice xa xn xc], .int .i64 0]) (by simp [results, Try.results23, go_sem, x0, x1, y0, y1]) rfl ⟨_, _, _, _, ms, _, _, _, _, ls, _, rfl, ⟨Q9, R9⟩, HR.out, hBB⟩
end Go.Proofs.Ytpeefhkadeoioaa

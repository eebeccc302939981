/-
  The contract of the document's Sub of whole numbers.
  The contract of the document's Floor.
-/
import Derived.Test.YtpeefhkadeoioaaModA
import Derived.Test.YtpeefhkadeoioaaRefA
import Derived.Deep.RegionWith
import Derived.BigRegion
import Derived.Test.YtpeefhkadeoioaaRefB
namespace Go.Proofs.Ytpeefhkadeoioaa
open Go.RowKit

set_option maxHeartbeats 2000000 in
theorem refIMul_any (n m : Bool) (a b : Option Addr) (la ca lb cb : Nat) (zs ys : List Int) (w : World) (h : Nums w a la ca zs) (h' : Nums w b lb cb ys) :
    Calls Try.prog 26 #[.agg #[.bool n, .slice a la ca], .agg #[.bool m, .slice b lb cb]] w fun e w' => ∃ q a' n' c' ls err, e = .returned (.tuple #[.agg #[.bool q, .slice a' n' c'], .int .i64 err]) ∧ Nums w' a' n' c' ls ∧ Res2I n zs m ys (iv n zs * iv m ys) q ls err ∧ Below w.heap.size w w' := by
  have hB := (((Below.refl w.heap.size w).alloc (Nat.le_refl _) (.cells #[.bool n, .slice a la ca] 45)).alloc (by simp) (.cells #[.bool m, .slice b lb cb] 45)).alloc (by simp; omega) (.cells #[.bool false, .slice none 0 0] 45)
  have H := h.below hB
  have H' := h'.below hB
  by_cases hrr : rightI n zs = false ∨ rightI m ys = false
  · have HR : Hid (Res2I n zs m ys (iv n zs * iv m ys) false [] 1) := Res2I.bad _ (by rcases hrr with hr | hr <;> rw [hr] <;> simp)
    go_enter Try.func26, Try.ntmps26
    go_wp2_with fail
    refine (refIRight_any _ _ _ _ _ _ H).mono ?_
    rintro e w1 ⟨rfl, hb1⟩
    obtain ⟨⟨c0, c1⟩, ⟨d0, d1⟩, -, -⟩ := held222 hb1
    go_wp2_with fail
    refine (refIRight_any _ _ _ _ _ _ (H'.below hb1)).mono ?_
    rintro e w2 ⟨rfl, hb2⟩
    have hb12 := hb1.trans (hb2.mono hb1.size)
    obtain ⟨-, -, ⟨s0, s1⟩, g0, g1⟩ := held222 hb12
    have hBB := ((hB.trans (hb12.mono hB.size)).setCell (p := ⟨w.heap.size + 1 + 1, 0, none⟩) (by simp; omega) (.bool false)).setCell (p := ⟨w.heap.size + 1 + 1, 1, none⟩) (by simp; omega) (.slice none 0 0)
    clear hB hb1 hb2 hb12 H H' c0 c1 d0 d1
    cases hr : rightI n zs with
    | false =>
      clear hrr
      go_wp2_with fail
      exact bodyPost_ret (v := .tuple #[.agg #[.bool false, .slice none 0 0], .int .i64 1]) (by simp [results, Try.results26, go_sem, s0, s1]) rfl ⟨_, _, _, _, _, _, rfl, Nums.nil _, HR.out, hBB⟩
    | true =>
      cases hr' : rightI m ys with
      | false =>
        clear hrr
        go_wp2_with fail
        exact bodyPost_ret (v := .tuple #[.agg #[.bool false, .slice none 0 0], .int .i64 1]) (by simp [results, Try.results26, go_sem, s0, s1]) rfl ⟨_, _, _, _, _, _, rfl, Nums.nil _, HR.out, hBB⟩
      | true => simp [hr, hr'] at hrr
  · have hr : rightI n zs = true := by cases e : rightI n zs with | true => rfl | false => exact absurd (.inl e) hrr
    have hr' : rightI m ys = true := by cases e : rightI m ys with | true => rfl | false => exact absurd (.inr e) hrr
    clear hrr
    obtain ⟨em, hne⟩ : ∃ em, (n == m) = em := ⟨_, rfl⟩
    have HN : Hid ((!em) = decide (n ≠ m)) := by show _ = _; rw [← hne]; cases n <;> cases m <;> rfl
    go_enter Try.func26, Try.ntmps26
    go_wp2_with fail
    refine (refIRight_any _ _ _ _ _ _ H).mono ?_
    rintro e w1 ⟨rfl, hb1⟩
    rw [hr]
    obtain ⟨⟨c0, c1⟩, ⟨d0, d1⟩, -, -⟩ := held222 hb1
    go_wp2_with fail
    refine (refIRight_any _ _ _ _ _ _ (H'.below hb1)).mono ?_
    rintro e w2 ⟨rfl, hb2⟩
    rw [hr']
    have hb12 := hb1.trans (hb2.mono hb1.size)
    clear c0 c1 d0 d1
    obtain ⟨⟨c0, c1⟩, ⟨d0, d1⟩, ⟨s0, s1⟩, g0, g1⟩ := held222 hb12
    have K := H.below hb12
    have K' := H'.below hb12
    go_wp2_with fail
    refine (refMul_any _ _ _ _ _ _ _ _ _ K K').mono ?_
    rintro e w3 ⟨xa, xn, xc, ls, xe, rfl, hx, hxr, hb3⟩
    have hx0 := hxr.got (rightI_B hr) (rightI_B hr')
    have hR := Res2I.ok hr hr' (mul_sign (n := n) (m := m) hx0)
    obtain ⟨e1, e2⟩ := hx0.from (!em)
    rw [← HN.out, ← e2] at hR
    have HR : Hid (Res2I n zs m ys (iv n zs * iv m ys) (fromN (!em) ls) ls xe) := hR
    have HL : Hid (fromL ls = ls) := e1
    have hb13 := hb12.trans (hb3.mono hb12.size)
    clear c0 c1 d0 d1 s0 s1 g0 g1 hxr hR hx0 e1 e2
    obtain ⟨⟨c0, c1⟩, ⟨d0, d1⟩, -, -⟩ := held222 hb13
    go_wp2_with fail
    refine (refFrom_any (!em) _ _ _ _ _ hx).mono ?_
    rintro e w7 ⟨ya, yn, yc, rfl, hY, hb7⟩
    rw [HL.out] at hY
    generalize fromN (!em) ls = q at HR ⊢
    clear c0 c1 d0 d1
    have hb17 := hb13.trans (hb7.mono hb13.size)
    obtain ⟨⟨c0, c1⟩, ⟨d0, d1⟩, ⟨s0, s1⟩, g0, g1⟩ := held222 hb17
    have hx2 := hY.put2 s0 s1 (.bool q) (.slice ya yn yc)
    have hBB := ((hB.trans (hb17.mono hB.size)).setCell (p := ⟨w.heap.size + 1 + 1, 0, none⟩) (by simp; omega) (.bool q)).setCell (p := ⟨w.heap.size + 1 + 1, 1, none⟩) (by simp; omega) (.slice ya yn yc)
    clear hB hb1 hb2 hb12 hb3 hb13 hb7 hb17 H H' K K' hx hr hr' hY
    go_wp2_with fail
    exact bodyPost_ret (v := .tuple #[.agg #[.bool q, .slice ya yn yc], .int .i64 xe]) (by simp [results, Try.results26, go_sem, s0, s1]) rfl ⟨_, _, _, _, _, _, rfl, hx2, HR.out, hBB⟩
end Go.Proofs.Ytpeefhkadeoioaa

namespace Go.Proofs.Ytpeefhkadeoioaa
open Go.RowKit

end Go.Proofs.Ytpeefhkadeoioaa

namespace Go.Proofs.Ytpeefhkadeoioaa
open Go.RowKit

set_option maxHeartbeats 3000000 in
theorem refIFloor_any (n m : Bool) (a b : Option Addr) (la ca lb cb : Nat) (zs ys : List Int) (w : World) (h : Nums w a la ca zs) (h' : Nums w b lb cb ys) :
    Calls Try.prog 28 #[.agg #[.bool n, .slice a la ca], .agg #[.bool m, .slice b lb cb]] w fun e w' => ∃ p a1 k1 c1 qs r a2 k2 c2 rs err, e = .returned (.tuple #[.agg #[.bool p, .slice a1 k1 c1], .agg #[.bool r, .slice a2 k2 c2], .int .i64 err]) ∧ (Nums w' a1 k1 c1 qs ∧ Nums w' a2 k2 c2 rs) ∧ ResFloor n zs m ys p qs r rs err ∧ Below w.heap.size w w' := by
  have hB := ((((Below.refl w.heap.size w).alloc (Nat.le_refl _) (.cells #[.bool n, .slice a la ca] 45)).alloc (by simp) (.cells #[.bool m, .slice b lb cb] 45)).alloc (by simp; omega) (.cells #[.bool false, .slice none 0 0] 45)).alloc (by simp; omega) (.cells #[.bool false, .slice none 0 0] 45)
  have H := h.below hB
  have H' := h'.below hB
  have hd := h.digs
  have hd' := h'.digs
  have hl' := h'.hlen
  have hm' := h'.hmax
  have hc' := h'.hcap
  unfold maxLen at hm'
  by_cases hrr : rightI n zs = false ∨ rightI m ys = false
  · have HR : Hid (ResFloor n zs m ys false [] false [] 1) := ResFloor.bad (.inl (by rcases hrr with hr | hr <;> rw [hr] <;> simp))
    clear hl'
    go_enter Try.func28, Try.ntmps28
    go_wp2_with fail
    refine (refIRight_any _ _ _ _ _ _ H).mono ?_
    rintro e w1 ⟨rfl, hb1⟩
    obtain ⟨⟨c0, c1⟩, ⟨d0, d1⟩, -⟩ := held2222 hb1
    go_wp2_with fail
    refine (refIRight_any _ _ _ _ _ _ (H'.below hb1)).mono ?_
    rintro e w2 ⟨rfl, hb2⟩
    have hb12 := hb1.trans (hb2.mono hb1.size)
    clear c0 c1 d0 d1 hb2
    obtain ⟨⟨c0, c1⟩, ⟨d0, d1⟩, ⟨s0, s1⟩, ⟨t0, t1⟩, ⟨g0, g1⟩, k0, k1⟩ := held2222 hb12
    have hBB := bput4 (hB.trans (hb12.mono hB.size)) (g := w.heap.size + 1 + 1) (g' := w.heap.size + 1 + 1 + 1) (by omega) (by omega) (.bool false) (.slice none 0 0) (.bool false) (.slice none 0 0)
    have hcc := put4_cells (by omega) s0 s1 t0 t1 (.bool false) (.slice none 0 0) (.bool false) (.slice none 0 0)
    have HCC := (show Hid _ from hcc)
    clear hB H H' hcc hb1 hb12
    clear c0 c1 d0 d1
    cases hr : rightI n zs with
    | false =>
      clear hrr
      go_wp2_with fail
      obtain ⟨⟨x0, x1⟩, y0, y1⟩ := HCC.out
      exact bodyPost_ret (v := .tuple #[.agg #[.bool false, .slice none 0 0], .agg #[.bool false, .slice none 0 0], .int .i64 1]) (by simp [results, Try.results28, go_sem, x0, x1, y0, y1]) rfl ⟨_, _, _, _, [], _, _, _, _, [], _, rfl, ⟨Nums.nil _, Nums.nil _⟩, HR.out, hBB⟩
    | true =>
      cases hr' : rightI m ys with
      | false =>
        clear hrr
        go_wp2_with fail
        obtain ⟨⟨x0, x1⟩, y0, y1⟩ := HCC.out
        exact bodyPost_ret (v := .tuple #[.agg #[.bool false, .slice none 0 0], .agg #[.bool false, .slice none 0 0], .int .i64 1]) (by simp [results, Try.results28, go_sem, x0, x1, y0, y1]) rfl ⟨_, _, _, _, [], _, _, _, _, [], _, rfl, ⟨Nums.nil _, Nums.nil _⟩, HR.out, hBB⟩
      | true => simp [hr, hr'] at hrr
  · have hr : rightI n zs = true := by cases e : rightI n zs with | true => rfl | false => exact absurd (.inl e) hrr
    have hr' : rightI m ys = true := by cases e : rightI m ys with | true => rfl | false => exact absurd (.inr e) hrr
    clear hrr
    by_cases h0 : lb = 0
    · have HR : Hid (ResFloor n zs m ys false [] false [] 3) := ResFloor.zero (by rw [hr, hr']; rfl) (by omega)
      clear hl'
      subst h0
      go_enter Try.func28, Try.ntmps28
      go_wp2_with fail
      refine (refIRight_any _ _ _ _ _ _ H).mono ?_
      rintro e w1 ⟨rfl, hb1⟩
      rw [hr]
      obtain ⟨⟨c0, c1⟩, ⟨d0, d1⟩, -⟩ := held2222 hb1
      go_wp2_with fail
      refine (refIRight_any _ _ _ _ _ _ (H'.below hb1)).mono ?_
      rintro e w2 ⟨rfl, hb2⟩
      rw [hr']
      have hb12 := hb1.trans (hb2.mono hb1.size)
      clear c0 c1 d0 d1 hb2
      obtain ⟨⟨c0, c1⟩, ⟨d0, d1⟩, ⟨s0, s1⟩, ⟨t0, t1⟩, ⟨g0, g1⟩, k0, k1⟩ := held2222 hb12
      have hBB := bput4 (hB.trans (hb12.mono hB.size)) (g := w.heap.size + 1 + 1) (g' := w.heap.size + 1 + 1 + 1) (by omega) (by omega) (.bool false) (.slice none 0 0) (.bool false) (.slice none 0 0)
      have hcc := put4_cells (by omega) s0 s1 t0 t1 (.bool false) (.slice none 0 0) (.bool false) (.slice none 0 0)
      have HCC := (show Hid _ from hcc)
      clear hB H H' hcc hb1 hb12
      go_wp2_with fail
      obtain ⟨⟨x0, x1⟩, y0, y1⟩ := HCC.out
      exact bodyPost_ret (v := .tuple #[.agg #[.bool false, .slice none 0 0], .agg #[.bool false, .slice none 0 0], .int .i64 3]) (by simp [results, Try.results28, go_sem, x0, x1, y0, y1]) rfl ⟨_, _, _, _, [], _, _, _, _, [], _, rfl, ⟨Nums.nil _, Nums.nil _⟩, HR.out, hBB⟩
    · have hne : ((lb : Int) == 0) = false := by simp; omega
      cases m with
      | true =>
        have HR : Hid (ResFloor n zs true ys false [] false [] 1) := ResFloor.bad (.inr rfl)
        clear hl'
        go_enter Try.func28, Try.ntmps28
        go_wp2_with fail
        refine (refIRight_any _ _ _ _ _ _ H).mono ?_
        rintro e w1 ⟨rfl, hb1⟩
        rw [hr]
        obtain ⟨⟨c0, c1⟩, ⟨d0, d1⟩, -⟩ := held2222 hb1
        go_wp2_with fail
        refine (refIRight_any _ _ _ _ _ _ (H'.below hb1)).mono ?_
        rintro e w2 ⟨rfl, hb2⟩
        rw [hr']
        have hb12 := hb1.trans (hb2.mono hb1.size)
        clear c0 c1 d0 d1 hb2
        obtain ⟨⟨c0, c1⟩, ⟨d0, d1⟩, ⟨s0, s1⟩, ⟨t0, t1⟩, ⟨g0, g1⟩, k0, k1⟩ := held2222 hb12
        have hBB := bput4 (hB.trans (hb12.mono hB.size)) (g := w.heap.size + 1 + 1) (g' := w.heap.size + 1 + 1 + 1) (by omega) (by omega) (.bool false) (.slice none 0 0) (.bool false) (.slice none 0 0)
        have hcc := put4_cells (by omega) s0 s1 t0 t1 (.bool false) (.slice none 0 0) (.bool false) (.slice none 0 0)
        have HCC := (show Hid _ from hcc)
        clear hB H H' hcc hb1 hb12
        go_wp2_with fail
        obtain ⟨⟨x0, x1⟩, y0, y1⟩ := HCC.out
        exact bodyPost_ret (v := .tuple #[.agg #[.bool false, .slice none 0 0], .agg #[.bool false, .slice none 0 0], .int .i64 1]) (by simp [results, Try.results28, go_sem, x0, x1, y0, y1]) rfl ⟨_, _, _, _, [], _, _, _, _, [], _, rfl, ⟨Nums.nil _, Nums.nil _⟩, HR.out, hBB⟩
      | false =>
        have hy0 : ys.length ≠ 0 := by omega
        have HY0 : Hid (ys.length ≠ 0) := hy0
        clear hl' hy0
        go_enter Try.func28, Try.ntmps28
        go_wp2_with fail
        refine (refIRight_any _ _ _ _ _ _ H).mono ?_
        rintro e w1 ⟨rfl, hb1⟩
        rw [hr]
        obtain ⟨⟨c0, c1⟩, ⟨d0, d1⟩, -⟩ := held2222 hb1
        go_wp2_with fail
        refine (refIRight_any _ _ _ _ _ _ (H'.below hb1)).mono ?_
        rintro e w2 ⟨rfl, hb2⟩
        rw [hr']
        have hb12 := hb1.trans (hb2.mono hb1.size)
        clear c0 c1 d0 d1 hb2
        obtain ⟨⟨c0, c1⟩, ⟨d0, d1⟩, -⟩ := held2222 hb12
        have K := H.below hb12
        have K' := H'.below hb12
        go_wp2_with fail
        refine (refDiv_any _ _ _ _ _ _ _ _ _ K K').mono ?_
        rintro e w3 ⟨qa, qn, qc, qs, ra, rn, rc, rs, err, rfl, hQ, hRr, hD, hb3⟩
        obtain ⟨rfl, ⟨rq, rr⟩, -⟩ := ResDiv.parts (rightI_B hr) (rightI_B hr') HY0.out hD
        have hb13 := hb12.trans (hb3.mono hb12.size)
        have hrl := hRr.hlen
        have hrm := hRr.hmax
        have hrc := hRr.hcap
        have K3 := K'.below hb3
        unfold maxLen at hrm
        clear c0 c1 d0 d1 K K' hb1 hb12 hb3
        have HL2 : Hid (fromL rs = rs ∧ fromN false rs = (false && decide (0 < rs.length))) := right_from rr false
        cases n with
        | false =>
          have hF := floor_direct hr hr' hD (.inl rfl)
          have HR : Hid (ResFloor false zs false ys (false && decide (0 < qs.length)) qs false rs 0) := hF
          have HL : Hid (fromL qs = qs ∧ fromN false qs = (false && decide (0 < qs.length))) := right_from rq false
          clear hD hF hrl hr hr' K3
          obtain ⟨⟨c0, c1⟩, ⟨d0, d1⟩, -⟩ := held2222 hb13
          go_wp2_with fail
          refine (refFrom_any false _ _ _ _ _ hQ).mono ?_
          rintro e w8 ⟨fa, fn, fc, rfl, hFq, hb8⟩
          rw [HL.out.1] at hFq
          rw [HL.out.2]
          obtain ⟨q, hq⟩ : ∃ q, q = (false && decide (0 < qs.length)) := ⟨_, rfl⟩
          rw [← hq]
          rw [← hq] at HR
          have hb18 := (hb13).trans (hb8.mono (hb13).size)
          clear hq c0 c1 d0 d1
          have R8 := (hRr).below hb8
          obtain ⟨⟨c0, c1⟩, ⟨d0, d1⟩, -⟩ := held2222 hb18
          go_wp2_with fail
          refine (refFrom_any false _ _ _ _ _ R8).mono ?_
          rintro e w9 ⟨ga, gn, gc, rfl, hFr, hb9⟩
          rw [HL2.out.1] at hFr
          rw [HL2.out.2, Bool.false_and]
          have hb19 := hb18.trans (hb9.mono hb18.size)
          have Q9 := hFq.below hb9
          clear c0 c1 d0 d1 hb9 R8
          obtain ⟨-, -, ⟨s0, s1⟩, ⟨t0, t1⟩, ⟨g0, g1⟩, k0, k1⟩ := held2222 hb19
          have hBB := bput4 (hB.trans (hb19.mono hB.size)) (g := w.heap.size + 1 + 1) (g' := w.heap.size + 1 + 1 + 1) (by omega) (by omega) (.bool q) (.slice fa fn fc) (.bool false) (.slice ga gn gc)
          have hcc := put4_cells (by omega) s0 s1 t0 t1 (.bool q) (.slice fa fn fc) (.bool false) (.slice ga gn gc)
          have Q10 := Q9.put4 (by omega) s0 s1 t0 t1 (.bool q) (.slice fa fn fc) (.bool false) (.slice ga gn gc)
          have R10 := hFr.put4 (by omega) s0 s1 t0 t1 (.bool q) (.slice fa fn fc) (.bool false) (.slice ga gn gc)
          have HCC := (show Hid _ from hcc)
          have HQ9 := (show Hid _ from And.intro Q10 (And.intro R10 hBB))
          clear hB H H' hcc hb8 hb18 hb19 Q9 Q10 R10 hBB hFq hFr HL HL2 hQ hRr hb13
          go_wp2_with fail
          obtain ⟨⟨x0, x1⟩, y0, y1⟩ := HCC.out
          obtain ⟨Q9, R9, hBB⟩ := HQ9.out
          exact bodyPost_ret (v := .tuple #[.agg #[.bool q, .slice fa fn fc], .agg #[.bool false, .slice ga gn gc], .int .i64 0]) (by simp [results, Try.results28, go_sem, x0, x1, y0, y1]) rfl ⟨_, _, _, _, qs, _, _, _, _, rs, _, rfl, ⟨Q9, R9⟩, HR.out, hBB⟩
        | true =>
        have HL : Hid (fromL qs = qs ∧ fromN true qs = (true && decide (0 < qs.length))) := right_from rq true
        by_cases hc : rn = 0
        · have hF := floor_direct hr hr' hD (.inr (by omega))
          have hrs : rs = [] := List.eq_nil_of_length_eq_zero (by omega)
          subst hrs
          have HR : Hid (ResFloor true zs false ys (true && decide (0 < qs.length)) qs false [] 0) := hF
          clear hD hF hrl hr hr' K3 HL2
          subst hc
          obtain ⟨⟨c0, c1⟩, ⟨d0, d1⟩, -⟩ := held2222 hb13
          go_wp2_with fail
          refine (refFrom_any true _ _ _ _ _ hQ).mono ?_
          rintro e w8 ⟨fa, fn, fc, rfl, hFq, hb8⟩
          rw [HL.out.1] at hFq
          rw [HL.out.2]
          obtain ⟨q, hq⟩ : ∃ q, q = (true && decide (0 < qs.length)) := ⟨_, rfl⟩
          rw [← hq]
          rw [← hq] at HR
          have hb18 := (hb13).trans (hb8.mono (hb13).size)
          clear hq c0 c1 d0 d1
          have hb19 := hb18
          have Q9 := hFq
          obtain ⟨-, -, ⟨s0, s1⟩, ⟨t0, t1⟩, ⟨g0, g1⟩, k0, k1⟩ := held2222 hb19
          have hBB := bput4 (hB.trans (hb19.mono hB.size)) (g := w.heap.size + 1 + 1) (g' := w.heap.size + 1 + 1 + 1) (by omega) (by omega) (.bool q) (.slice fa fn fc) (.bool false) (.slice none 0 0)
          have hcc := put4_cells (by omega) s0 s1 t0 t1 (.bool q) (.slice fa fn fc) (.bool false) (.slice none 0 0)
          have Q10 := Q9.put4 (by omega) s0 s1 t0 t1 (.bool q) (.slice fa fn fc) (.bool false) (.slice none 0 0)
          have R10 := Nums.nil w
          have HCC := (show Hid _ from hcc)
          have HQ9 := (show Hid _ from And.intro Q10 (And.intro R10 hBB))
          clear hB H H' hcc hb8 hb18 hb19 Q9 Q10 R10 hBB hFq HL hQ hRr hb13
          go_wp2_with fail
          obtain ⟨⟨x0, x1⟩, y0, y1⟩ := HCC.out
          obtain ⟨Q9, R9, hBB⟩ := HQ9.out
          exact bodyPost_ret (v := .tuple #[.agg #[.bool q, .slice fa fn fc], .agg #[.bool false, .slice none 0 0], .int .i64 0]) (by simp [results, Try.results28, go_sem, x0, x1, y0, y1]) rfl ⟨_, _, _, _, qs, _, _, _, _, [], _, rfl, ⟨Q9, Nums.nil _⟩, HR.out, hBB⟩
        · have hr0 : ((rn : Int) == 0) = false := by simp; omega
          obtain ⟨-, hqr, h64, hle, hF⟩ := floor_further hr hr' hd hd' hD (by omega)
          have HF := (show Hid _ from hF)
          have H64 := (show Hid _ from And.intro h64 hle)
          have hys := rightI_B hr'
          clear hD hF hrl hr hr' hc h64 hle HL HL2
          obtain ⟨⟨c0, c1⟩, ⟨d0, d1⟩, -⟩ := held2222 hb13
          go_wp2_with fail
          refine (refOf_any 1 _ (by omega)).mono ?_
          rintro e w4 ⟨oa, on, oc, rfl, hO, hb4⟩
          have hb14 := hb13.trans (hb4.mono hb13.size)
          clear c0 c1 d0 d1
          obtain ⟨⟨c0, c1⟩, ⟨d0, d1⟩, -⟩ := held2222 hb14
          go_wp2_with fail
          refine (refAdd_any _ _ _ _ _ _ _ _ _ (hQ.below hb4) hO).mono ?_
          rintro e w5 ⟨ma, mn, mc, ms, me, rfl, hM, hMr, hb5⟩
          have hR := hMr.got hqr.1 (by decide)
          rw [show val 18446744073709551616 (ofZ 1) = 1 by decide] at hR
          obtain ⟨rfl, -⟩ := res_fits hR H64.out.1
          have HM : Hid (Res (val 18446744073709551616 qs + 1) ms 0) := hR
          have hb15 := hb14.trans (hb5.mono hb14.size)
          have K5 := (K3.below hb4).below hb5
          have R5 := (hRr.below hb4).below hb5
          clear c0 c1 d0 d1 hMr hR hb4 hb5 hO hQ hRr K3 hb13 hb14
          obtain ⟨⟨c0, c1⟩, ⟨d0, d1⟩, -⟩ := held2222 hb15
          go_wp2_with fail
          refine (refSub_any _ _ _ _ _ _ _ _ _ K5 R5).mono ?_
          rintro e w6 ⟨xa, xn, xc, ls, xe, rfl, hX, hXr, hb6⟩
          have hR := (hXr.got hd' R5.digs hys hqr.2 H64.out.2).2
          have HR : Hid (ResFloor true zs false ys (true && decide (0 < ms.length)) ms false ls 0) := HF.out ms ls HM.out hR
          have HL : Hid (fromL ms = ms ∧ fromN true ms = (true && decide (0 < ms.length))) := HM.out.from true
          have HL2 : Hid (fromL ls = ls ∧ fromN false ls = (false && decide (0 < ls.length))) := hR.from false
          have hb16 := hb15.trans (hb6.mono hb15.size)
          have M6 := hM.below hb6
          clear c0 c1 d0 d1 hXr hR HF HM H64 hb15 hb6 hM K5 R5
          obtain ⟨⟨c0, c1⟩, ⟨d0, d1⟩, -⟩ := held2222 hb16
          go_wp2_with fail
          refine (refFrom_any true _ _ _ _ _ M6).mono ?_
          rintro e w8 ⟨fa, fn, fc, rfl, hFq, hb8⟩
          rw [HL.out.1] at hFq
          rw [HL.out.2]
          obtain ⟨q, hq⟩ : ∃ q, q = (true && decide (0 < ms.length)) := ⟨_, rfl⟩
          rw [← hq]
          rw [← hq] at HR
          have hb18 := (hb16).trans (hb8.mono (hb16).size)
          clear hq c0 c1 d0 d1
          have R8 := (hX).below hb8
          obtain ⟨⟨c0, c1⟩, ⟨d0, d1⟩, -⟩ := held2222 hb18
          go_wp2_with fail
          refine (refFrom_any false _ _ _ _ _ R8).mono ?_
          rintro e w9 ⟨ga, gn, gc, rfl, hFr, hb9⟩
          rw [HL2.out.1] at hFr
          rw [HL2.out.2, Bool.false_and]
          have hb19 := hb18.trans (hb9.mono hb18.size)
          have Q9 := hFq.below hb9
          clear c0 c1 d0 d1 hb9 R8
          obtain ⟨-, -, ⟨s0, s1⟩, ⟨t0, t1⟩, ⟨g0, g1⟩, k0, k1⟩ := held2222 hb19
          have hBB := bput4 (hB.trans (hb19.mono hB.size)) (g := w.heap.size + 1 + 1) (g' := w.heap.size + 1 + 1 + 1) (by omega) (by omega) (.bool q) (.slice fa fn fc) (.bool false) (.slice ga gn gc)
          have hcc := put4_cells (by omega) s0 s1 t0 t1 (.bool q) (.slice fa fn fc) (.bool false) (.slice ga gn gc)
          have Q10 := Q9.put4 (by omega) s0 s1 t0 t1 (.bool q) (.slice fa fn fc) (.bool false) (.slice ga gn gc)
          have R10 := hFr.put4 (by omega) s0 s1 t0 t1 (.bool q) (.slice fa fn fc) (.bool false) (.slice ga gn gc)
          have HCC := (show Hid _ from hcc)
          have HQ9 := (show Hid _ from And.intro Q10 (And.intro R10 hBB))
          clear hB H H' hcc hb8 hb18 hb19 Q9 Q10 R10 hBB hFq hFr HL HL2 M6 hX hb16
          go_wp2_with fail
          obtain ⟨⟨x0, x1⟩, y0, y1⟩ := HCC.out
          obtain ⟨Q9, R9, hBB⟩ := HQ9.out
          exact bodyPost_ret (v := .tuple #[.agg #[.bool q, .slice fa fn fc], .agg #[.bool false, .slice ga gn gc], .int .i64 0]) (by simp [results, Try.results28, go_sem, x0, x1, y0, y1]) rfl ⟨_, _, _, _, ms, _, _, _, _, ls, _, rfl, ⟨Q9, R9⟩, HR.out, hBB⟩
end Go.Proofs.Ytpeefhkadeoioaa

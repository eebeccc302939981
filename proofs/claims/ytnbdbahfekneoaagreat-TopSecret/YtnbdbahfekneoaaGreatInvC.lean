/-
  The contract of modint.Inverse.
-/
import Derived.Test.YtnbdbahfekneoaaGreatDivOf
import Derived.Test.YtnbdbahfekneoaaGreatRestBy
namespace Go.Proofs.YtnbdbahfekneoaaGreat
open Go.RowKit

theorem two_lt {ns : List Int} (hn : rightB ns = true) : cmpN ns (ofZ 2) < 0 ↔ val 18446744073709551616 ns < 2 := by
  have := cmpN_lt (zs := ns) (ys := ofZ 2) hn (by decide)
  rwa [show val 18446744073709551616 (ofZ 2) = 2 by decide] at this

theorem one_eq {L : List Int} (hn : rightB L = true) : cmpN L (ofZ 1) = 0 ↔ val 18446744073709551616 L = 1 := by
  unfold cmpN
  rw [hn, show rightB (ofZ 1) = true by decide, if_pos (by rfl), show val 18446744073709551616 (ofZ 1) = 1 by decide]
  unfold cmpZ
  split
  · constructor <;> intro <;> omega
  · split
    · constructor <;> intro <;> omega
    · constructor <;> intro <;> omega

theorem ResInv.bad {zs ns : List Int} (h : (rightB zs && (rightB ns && decide (2 ≤ val 18446744073709551616 ns))) = false) : ResInv zs ns [] 1 := by
  unfold ResInv; rw [h]; exact ⟨rfl, rfl⟩
theorem ResInv.none {zs ns : List Int} (h1 : rightB zs = true) (h2 : rightB ns = true) (h3 : 2 ≤ val 18446744073709551616 ns) (h : gz (val 18446744073709551616 ns) (val 18446744073709551616 zs) ≠ 1) : ResInv zs ns [] 6 := by
  unfold ResInv; rw [h1, h2, decide_eq_true h3, if_pos (by rfl), if_neg h]; exact ⟨rfl, rfl⟩
theorem ResInv.some {zs ns ls : List Int} (h1 : rightB zs = true) (h2 : rightB ns = true) (h3 : 2 ≤ val 18446744073709551616 ns) (h : gz (val 18446744073709551616 ns) (val 18446744073709551616 zs) = 1) (hd : Digs 18446744073709551616 ls) (hr : rightB ls = true) {f : Int} (hv : val 18446744073709551616 ls = f % val 18446744073709551616 ns) (hf : (val 18446744073709551616 zs * f - 1) % val 18446744073709551616 ns = 0) : ResInv zs ns ls 0 := by
  unfold ResInv
  rw [h1, h2, decide_eq_true h3, if_pos (by rfl), if_pos h]
  refine ⟨rfl, hd, hr, ?_, ?_⟩
  · rw [hv]; exact Int.emod_lt_of_pos _ (by omega)
  · rw [hv, Int.mul_emod, Int.emod_emod, ← Int.mul_emod]
    have e : val 18446744073709551616 zs * f = (val 18446744073709551616 zs * f - 1) + 1 := by omega
    rw [e, Int.add_emod, hf, Int.zero_add, Int.emod_emod]
    exact Int.emod_eq_of_lt (by decide) (by omega)

set_option maxHeartbeats 2000000 in
theorem inverse_of (a b : Option Addr) (la ca lb cb : Nat) (zs ns : List Int) (w : World) (h : Nums w a la ca zs) (h' : Nums w b lb cb ns) :
    Calls Tryz.prog 41 #[.slice a la ca, .slice b lb cb] w fun e w' => ∃ a' n' c' ls err, e = .returned (.tuple #[.slice a' n' c', .int .i64 err]) ∧ Nums w' a' n' c' ls ∧ ResInv zs ns ls err ∧ Below w.heap.size w w' := by
  cases hr : rightB zs with
  | false =>
    have HR : Hid (ResInv zs ns [] 1) := ResInv.bad (by rw [hr]; rfl)
    go_enter Tryz.func41, Tryz.ntmps41
    go_wp2_with fail
    refine (right_any _ _ _ _ _ h).mono ?_
    rintro e w' ⟨rfl, rfl⟩
    rw [hr]
    go_wp2_with fail
    go_ret2
    exact ⟨none, 0, 0, [], 1, rfl, Nums.nil _, HR.out, Below.refl _ _⟩
  | true =>
  cases hr' : rightB ns with
  | false =>
    have HR : Hid (ResInv zs ns [] 1) := ResInv.bad (by rw [hr, hr']; rfl)
    go_enter Tryz.func41, Tryz.ntmps41
    go_wp2_with fail
    refine (right_any _ _ _ _ _ h).mono ?_
    rintro e w' ⟨rfl, rfl⟩
    rw [hr]
    go_wp2_with fail
    refine (right_any _ _ _ _ _ h').mono ?_
    rintro e w' ⟨rfl, rfl⟩
    rw [hr']
    go_wp2_with fail
    go_ret2
    exact ⟨none, 0, 0, [], 1, rfl, Nums.nil _, HR.out, Below.refl _ _⟩
  | true =>
    obtain ⟨cc, hcc⟩ : ∃ cc, cc = cmpN ns (ofZ 2) := ⟨_, rfl⟩
    have HC : Hid (cc = cmpN ns (ofZ 2)) := hcc
    clear hcc
    by_cases hlt : cc < 0
    · have HR : Hid (ResInv zs ns [] 1) := ResInv.bad (by
        rw [HC.out] at hlt
        have := (two_lt hr').1 hlt
        rw [hr, hr', decide_eq_false (by omega)]; rfl)
      go_enter Tryz.func41, Tryz.ntmps41
      go_wp2_with fail
      refine (right_any _ _ _ _ _ h).mono ?_
      rintro e w' ⟨rfl, rfl⟩
      rw [hr]
      go_wp2_with fail
      refine (right_any _ _ _ _ _ h').mono ?_
      rintro e w0 ⟨rfl, rfl⟩
      rw [hr']
      go_wp2_with fail
      refine (of_any 2 _ (by omega)).mono ?_
      rintro e w1 ⟨oa, on, oc, rfl, ho, hb1⟩
      go_wp2_with fail
      refine (cmp_any _ _ _ _ _ _ _ _ _ (h'.below hb1) ho).mono ?_
      rintro e w2 ⟨rfl, hb2⟩
      rw [← HC.out]
      have hB2 := hb1.trans (hb2.mono hb1.size)
      clear ho hb1 hb2
      go_wp2_with fail
      go_ret2
      exact ⟨none, 0, 0, [], 1, rfl, Nums.nil _, HR.out, hB2⟩
    · have h2 : 2 ≤ val 18446744073709551616 ns := by
        have := mt (two_lt hr').2 (by rw [← HC.out]; exact hlt)
        omega
      have hdc : decide (cc < 0) = false := by simp; omega
      have hn0 : ns.length ≠ 0 := by intro e; have : ns = [] := List.eq_nil_of_length_eq_zero e; subst this; simp [val] at h2
      have H2 : Hid (2 ≤ val 18446744073709551616 ns ∧ ns.length ≠ 0) := ⟨h2, hn0⟩
      clear h2 hn0
      go_enter Tryz.func41, Tryz.ntmps41
      go_wp2_with fail
      refine (right_any _ _ _ _ _ h).mono ?_
      rintro e w' ⟨rfl, rfl⟩
      rw [hr]
      go_wp2_with fail
      refine (right_any _ _ _ _ _ h').mono ?_
      rintro e w0 ⟨rfl, rfl⟩
      rw [hr']
      go_wp2_with fail
      refine (of_any 2 _ (by omega)).mono ?_
      rintro e w1 ⟨oa, on, oc, rfl, ho, hb1⟩
      go_wp2_with fail
      refine (cmp_any _ _ _ _ _ _ _ _ _ (h'.below hb1) ho).mono ?_
      rintro e w2 ⟨rfl, hb2⟩
      rw [← HC.out]
      have hB2 := hb1.trans (hb2.mono hb1.size)
      have X0 := h.below hB2
      have X1 := h'.below hB2
      clear ho hb1 hb2 h h'
      go_wp2_with fail
      refine (divisorOf_any _ _ _ _ _ _ _ _ _ X0 X1 hr hr').mono ?_
      rintro e w3 ⟨ta, tn, tc, L, p, fa, fn, fc, fs, rfl, ⟨hL, hF⟩, ⟨rL, rF⟩, vL, hmod, hb3⟩
      have HV : Hid (val 18446744073709551616 L = gz (val 18446744073709551616 ns) (val 18446744073709551616 zs) ∧ (val 18446744073709551616 zs * iv p fs - val 18446744073709551616 L) % val 18446744073709551616 ns = 0) := ⟨vL, hmod⟩
      have hV := (Below.refl w3.heap.size w3).alloc (Nat.le_refl _) (.cells #[.bool p, .slice fa fn fc] 123)
      have b4 := hb3.trans (hV.mono hb3.size)
      replace X1 := X1.below b4
      have L4 := hL.below hV
      have F4 := hF.below hV
      have c0 : (w3.alloc (.cells #[.bool p, .slice fa fn fc] 123)).cell? ⟨w3.heap.size, 0, none⟩ = some (.bool p) := by simp
      have c1 : (w3.alloc (.cells #[.bool p, .slice fa fn fc] 123)).cell? ⟨w3.heap.size, 1, none⟩ = some (.slice fa fn fc) := by simp
      have hB4 := hB2.trans (b4.mono hB2.size)
      clear vL hmod hV b4 hb3 hL hF hB2 X0
      go_upto_region 4 with fail
      generalize w3.alloc (.cells #[.bool p, .slice fa fn fc] 123) = V at *
      generalize w3.heap.size = g at *
      obtain ⟨c1', hc1'⟩ : ∃ c1', c1' = cmpN L (ofZ 1) := ⟨_, rfl⟩
      have HC1 : Hid (c1' = cmpN L (ofZ 1)) := hc1'
      clear hc1'
      go_wp2_with fail
      refine (of_any 1 _ (by omega)).mono ?_
      rintro e w5 ⟨oa, on, oc, rfl, ho, hb5⟩
      go_wp2_with fail
      refine (cmp_any _ _ _ _ _ _ _ _ _ (L4.below hb5) ho).mono ?_
      rintro e w6 ⟨rfl, hb6⟩
      rw [← HC1.out]
      have b6 := hb5.trans (hb6.mono hb5.size)
      replace X1 := X1.below b6
      replace F4 := F4.below b6
      replace c0 := bkeep b6 c0 rfl
      replace c1 := bkeep b6 c1 rfl
      have hB6 := hB4.trans (b6.mono hB4.size)
      clear b6 hb5 hb6 ho hB4 L4
      by_cases h1 : c1' = 0
      · have hg1 : val 18446744073709551616 L = 1 := by rw [HC1.out] at h1; exact (one_eq rL).1 h1
        have Hg : Hid (val 18446744073709551616 L = 1) := hg1
        subst h1
        clear hg1
        go_wp2_with fail
        refine (restBy_any _ _ _ _ _ _ _ _ _ _ F4 X1 rF hr' H2.out.2).mono ?_
        rintro e w7 ⟨ra, rn, rc, rs, rfl, hR, rR, vR, hb7⟩
        have hrd := hR.digs
        have hv := HV.out
        rw [Hg.out] at hv
        have HR : Hid (ResInv zs ns rs 0) := ResInv.some hr hr' H2.out.1 hv.1.symm hrd rR vR hv.2
        have hB7 := hB6.trans (hb7.mono hB6.size)
        clear vR hv hb7 hB6
        go_wp2_with fail
        go_ret2
        exact ⟨_, _, _, rs, _, rfl, hR, HR.out, hB7⟩
      · have hgn : gz (val 18446744073709551616 ns) (val 18446744073709551616 zs) ≠ 1 := by
          intro e
          exact h1 (by rw [HC1.out]; exact (one_eq rL).2 (HV.out.1.trans e))
        have HR : Hid (ResInv zs ns [] 6) := ResInv.none hr hr' H2.out.1 hgn
        have hq : (c1' == 0) = false := by simp [h1]
        clear hgn
        go_wp2_with fail
        go_ret2
        exact ⟨none, 0, 0, [], 6, rfl, Nums.nil _, HR.out, hB6⟩
end Go.Proofs.YtnbdbahfekneoaaGreat

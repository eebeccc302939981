/-
  The statement ModintTwice holds of the code at the commit that is named beside it, for every input.
-/
import Derived.Test.YtaipkganijofjabRows
import Derived.Test.YtaipkganijofjabInvC
import Derived.Test.YtaipkganijofjabRefGcd
import Derived.WalkKit
import Derived.ProofKit
import Derived.OpenShut
import Derived.ShutString
import Derived.ChangeOld
import Derived.Below
import Derived.Deep.Cut
import Derived.Deep.DeepCutAuto
import Derived.Deep.RegionWith
import Derived.BigRegion
namespace Go.Proofs.Ytaipkganijofjab.modintTwice
open Go.ChangeShapes Go.WideShapes Go.ChangeAt Go.RowKit
open Go.ChangeMaps (open_string shut_string)
set_option linter.unusedVariables false

theorem own : ownKnob Try.prog.godebug = none := by kernel_rfl
theorem laidOut : laidOutB Try.prog = true := by kernel_rfl

theorem open_one {H : Type} {enc : TypeId × Value → H} {W : World} {m : Nat} {c : Value} {x : DataW H × List MemPlace} (hf : DataW.trod enc Try.prog W 0 (fun _ => true) true m 23 [c] = some x) : ∃ a len cap zs, c = .slice a len cap ∧ IsRow .u64 W a len cap zs := by
  rcases open_ints Try.underlying23 Try.underlying29 (by kernel_rfl) hf with ⟨hcs, _⟩ | ⟨x, l, c, zs, hcs, _, hl, hm, hz, _, hcell, hwz⟩
  · simp at hcs
    exact ⟨none, 0, 0, [], hcs, .inl ⟨rfl, rfl, rfl, rfl⟩⟩
  · simp at hcs
    exact ⟨_, _, _, zs, hcs, .inr ⟨_, rfl, hl, hm, by simpa using hz, hcell, hwz⟩⟩

theorem gz_one {a n x : Int} (hn : 2 ≤ n) (hx : 0 ≤ x) (h : a * x % n = 1) : gz n x = 1 := by
  unfold gz
  have hd1 : ((Nat.gcd n.toNat x.toNat : Nat) : Int) ∣ n := by
    have := Int.natCast_dvd_natCast.2 (Nat.gcd_dvd_left n.toNat x.toNat)
    rwa [Int.toNat_of_nonneg (show 0 ≤ n by omega)] at this
  have hd2 : ((Nat.gcd n.toNat x.toNat : Nat) : Int) ∣ x := by
    have := Int.natCast_dvd_natCast.2 (Nat.gcd_dvd_right n.toNat x.toNat)
    rwa [Int.toNat_of_nonneg hx] at this
  have hm := Int.mul_ediv_add_emod (a * x) n
  rw [h] at hm
  have hd3 : ((Nat.gcd n.toNat x.toNat : Nat) : Int) ∣ 1 := by
    have e : (1 : Int) = a * x - n * (a * x / n) := by omega
    rw [e]
    exact Int.dvd_sub (Int.dvd_trans hd2 (Int.dvd_mul_left _ _)) (Int.dvd_trans hd1 (Int.dvd_mul_right _ _))
  have hle := Int.le_of_dvd (by decide) hd3
  have hpos : 0 < Nat.gcd n.toNat x.toNat := Nat.gcd_pos_of_pos_left _ (by omega)
  omega

theorem inv_got {zs ns ls : List Int} (h1 : rightB zs = true) (h2 : rightB ns = true) (h3 : 2 ≤ val 18446744073709551616 ns) (h : ResInv zs ns ls 0) : Digs 18446744073709551616 ls ∧ rightB ls = true ∧ val 18446744073709551616 ls < val 18446744073709551616 ns ∧ val 18446744073709551616 zs * val 18446744073709551616 ls % val 18446744073709551616 ns = 1 := by
  unfold ResInv at h
  rw [h1, h2, decide_eq_true h3, if_pos (by rfl)] at h
  split at h
  · exact h.2
  · exact absurd h.1 (by decide)

theorem inv_err {zs ns ls : List Int} {e : Int} (h1 : rightB zs = true) (h2 : rightB ns = true) (h3 : 2 ≤ val 18446744073709551616 ns) (h : ResInv zs ns ls e) : e = 0 ∨ e = 6 := by
  unfold ResInv at h
  rw [h1, h2, decide_eq_true h3, if_pos (by rfl)] at h
  split at h
  · exact .inl h.1
  · exact .inr h.1

/-- What the second inverse is, and what is left of the product. -/
theorem twice_math {zs ns xs ys : List Int} {e : Int} (hz : Digs 18446744073709551616 zs) (h1 : rightB zs = true) (h2 : rightB ns = true) (h3 : 2 ≤ val 18446744073709551616 ns) (hx : ResInv zs ns xs 0) (hy : ResInv xs ns ys e) :
    e = 0 ∧ ∀ rs, Digs 18446744073709551616 rs → rightB rs = true → val 18446744073709551616 rs = val 18446744073709551616 zs % val 18446744073709551616 ns → ys = rs := by
  obtain ⟨d1, r1, l1, v1⟩ := inv_got h1 h2 h3 hx
  have nx := val_nonneg (B := 18446744073709551616) (by decide) d1
  have hg := gz_one h3 nx v1
  have he : e = 0 := by
    unfold ResInv at hy
    rw [r1, h2, decide_eq_true h3, if_pos (by rfl), if_pos hg] at hy
    exact hy.1
  subst he
  obtain ⟨d2, r2, l2, v2⟩ := inv_got r1 h2 h3 hy
  refine ⟨rfl, fun rs hd hr hv => ?_⟩
  refine val_inj (by decide) d2 hd (right_top r2) (right_top hr) ?_
  refine inv_unique (a := val 18446744073709551616 xs) (n := val 18446744073709551616 ns) ⟨val_nonneg (by decide) d2, l2⟩ ⟨val_nonneg (by decide) hd, ?_⟩ v2 ?_
  · rw [hv]; exact Int.emod_lt_of_pos _ (by omega)
  · rw [hv, Int.mul_emod, Int.emod_emod, ← Int.mul_emod, Int.mul_comm]; exact v1

set_option maxHeartbeats 1600000 in
theorem walk (a0 : Option Addr) (len0 cap0 : Nat) (z0 : List Int) (a1 : Option Addr) (len1 cap1 : Nat) (z1 : List Int) (w : World) (w0 : IsRow .u64 w a0 len0 cap0 z0) (w1 : IsRow .u64 w a1 len1 cap1 z1) :
    Calls Try.prog 6 #[.slice a0 len0 cap0, .slice a1 len1 cap1] w fun e w' => e = .returned (.bool true) ∧ Below w.heap.size w w' := by
  have hm0 := (Nums.of_row w0).hmax
  have hcp0 := (Nums.of_row w0).hcap
  have hm1 := (Nums.of_row w1).hmax
  have hcp1 := (Nums.of_row w1).hcap
  unfold maxLen at hm0 hm1
  have G0 := Nums.of_row w0
  have G1 := Nums.of_row w1
  generalize z0.take len0 = zs at G0
  generalize z1.take len1 = ns at G1
  clear w0 w1
  have HL : Hid (zs.length = len0 ∧ ns.length = len1) := ⟨G0.hlen, G1.hlen⟩
  have hzd := G0.digs
  have hnd := G1.digs
  go_enter Try.func6, Try.ntmps6
  go_wp2_with fail
  refine (refRight_any _ _ _ _ _ G0).mono ?_
  rintro e w' ⟨rfl, rfl⟩
  go_wp2_with fail
  refine (refRight_any _ _ _ _ _ G1).mono ?_
  rintro e w ⟨rfl, rfl⟩
  cases hr : rightB zs with
  | false =>
    go_wp2_with fail
    go_ret
    exact ⟨rfl, Below.refl _ _⟩
  | true =>
  cases hr' : rightB ns with
  | false =>
    go_wp2_with fail
    go_ret
    exact ⟨rfl, Below.refl _ _⟩
  | true =>
  by_cases h20 : len0 ≤ 20
  case neg =>
    have hd : (20 : Int) < (len0 : Int) := by omega
    go_wp2_with fail
    go_ret
    exact ⟨rfl, Below.refl _ _⟩
  by_cases h21 : len1 ≤ 20
  case neg =>
    have hd0 : decide ((20 : Int) < (len0 : Int)) = false := by simp; omega
    have hd : (20 : Int) < (len1 : Int) := by omega
    go_wp2_with fail
    go_ret
    exact ⟨rfl, Below.refl _ _⟩
  have hd0 : decide ((20 : Int) < (len0 : Int)) = false := by simp; omega
  have hd1 : decide ((20 : Int) < (len1 : Int)) = false := by simp; omega
  obtain ⟨cc, hcc⟩ : ∃ cc, cc = cmpN ns [2] := ⟨_, rfl⟩
  have HC : Hid (cc = cmpN ns [2]) := hcc
  clear hcc
  have L2 := Nums.lit1 w 2 (by omega) 29
  have hV := (Below.refl w.heap.size w).alloc (Nat.le_refl _) (.cells #[.int .u64 2] 29)
  replace G0 := G0.below hV
  replace G1 := G1.below hV
  go_wp2_with fail
  refine (refCmp_any _ _ _ _ _ _ _ _ _ G1 L2).mono ?_
  rintro e v0 ⟨rfl, hb⟩
  rw [← HC.out]
  replace G0 := G0.below hb
  replace G1 := G1.below hb
  have hB0 := hV.trans (hb.mono hV.size)
  clear hb hV L2
  by_cases hlt : cc < 0
  · go_wp2_with fail
    go_ret
    exact ⟨rfl, hB0⟩
  · have hdc : decide (cc < 0) = false := by simp; omega
    have h2 : 2 ≤ val 18446744073709551616 ns := by
      have := mt (cmpN_lt (zs := ns) (ys := [2]) hr' (by decide)).2 (by rw [← HC.out]; exact hlt)
      rw [show val 18446744073709551616 [2] = 2 by decide] at this
      omega
    have hn0 : ns.length ≠ 0 := by intro e; have : ns = [] := List.eq_nil_of_length_eq_zero e; subst this; simp [val] at h2
    have H2 : Hid (2 ≤ val 18446744073709551616 ns ∧ ns.length ≠ 0) := ⟨h2, hn0⟩
    clear h2 hn0
    go_wp2_with fail
    refine (inverse_of _ _ _ _ _ _ _ _ _ G0 G1).mono ?_
    rintro e v1 ⟨xa, xn, xc, xs, xe, rfl, hx, hxr, hb⟩
    have HX : Hid (ResInv zs ns xs xe) := hxr
    replace G0 := G0.below hb
    replace G1 := G1.below hb
    have hB1 := hB0.trans (hb.mono hB0.size)
    clear hxr hb hB0
    by_cases hxe : xe = 0
    · subst hxe
      have hgot := inv_got hr hr' H2.out.1 HX.out
      have HGot := (show Hid _ from hgot)
      have hxr := hgot.2.1
      clear hgot
      go_wp2_with fail
      refine (inverse_of _ _ _ _ _ _ _ _ _ hx G1).mono ?_
      rintro e v2 ⟨ya, yn, yc, ys, ye, rfl, hy, hyr, hb⟩
      obtain ⟨rfl, hyu⟩ := twice_math hzd hr hr' H2.out.1 HX.out hyr
      have HYU := (show Hid _ from hyu)
      replace G0 := G0.below hb
      replace G1 := G1.below hb
      replace hx := hx.below hb
      have hB2 := hB1.trans (hb.mono hB1.size)
      clear hyr hyu hb hB1 HX
      go_wp2_with fail
      refine (refRest_any _ _ _ _ _ _ _ _ _ G0 G1).mono ?_
      rintro e v3 ⟨ra, rn, rc, rs, qs, err, rfl, hR, hD, hb⟩
      obtain ⟨-, ⟨-, rr⟩, -, -, vr⟩ := ResDiv.parts hr hr' H2.out.2 hD
      obtain rfl := HYU.out rs hR.digs rr vr
      replace G0 := G0.below hb
      replace G1 := G1.below hb
      replace hx := hx.below hb
      replace hy := hy.below hb
      have hB3 := hB2.trans (hb.mono hB2.size)
      clear hD hb hB2 HYU vr rr
      go_wp2_with fail
      refine (same_any _ _ _ _ _ _ _ _ _ hy hR).mono ?_
      rintro e v4 ⟨rfl, hb⟩
      rw [sameB_self]
      replace G0 := G0.below hb
      replace G1 := G1.below hb
      replace hx := hx.below hb
      have hB4 := hB3.trans (hb.mono hB3.size)
      clear hb hB3 hy hR
      go_wp2_with fail
      refine (refMul_any _ _ _ _ _ _ _ _ _ G0 hx).mono ?_
      rintro e v5 ⟨pa, pn, pc, ps, pe, rfl, hP, hPr, hb⟩
      have hPv : Digs 18446744073709551616 ps ∧ rightB ps = true ∧ val 18446744073709551616 ps = val 18446744073709551616 zs * val 18446744073709551616 xs := by
        have hg := HGot.out
        have b1 := val_lt_pow (B := 18446744073709551616) (by decide) hzd (show zs.length ≤ 20 by have := HL.out.1; omega)
        have b2 := val_lt_pow (B := 18446744073709551616) (by decide) hnd (show ns.length ≤ 20 by have := HL.out.2; omega)
        have n1 := val_nonneg (B := 18446744073709551616) (by decide) hzd
        have n2 := val_nonneg (B := 18446744073709551616) (by decide) hg.1
        have b3 : val 18446744073709551616 zs * val 18446744073709551616 xs ≤ 18446744073709551616 ^ 20 * 18446744073709551616 ^ 20 := Int.mul_le_mul (by omega) (by omega) n2 (by decide)
        have b4 : (18446744073709551616 : Int) ^ 20 * 18446744073709551616 ^ 20 < 18446744073709551616 ^ 64 := by decide
        exact (res_fits (hPr.got hr hxr) (by omega)).2
      have HPv := (show Hid _ from hPv)
      replace G1 := G1.below hb
      have hB5 := hB4.trans (hb.mono hB4.size)
      clear hb hB4 hx G0 hPr hPv
      go_wp2_with fail
      refine (refRest_any _ _ _ _ _ _ _ _ _ hP G1).mono ?_
      rintro e v6 ⟨la, ln, lc, ls, qs', err', rfl, hL, hD, hb⟩
      obtain ⟨-, ⟨-, rl⟩, -, -, vl⟩ := ResDiv.parts HPv.out.2.1 hr' H2.out.2 hD
      have hl1 : ls = [1] := by
        refine val_inj (by decide) hL.digs (by intro x hx; simp at hx; omega) (right_top rl) (.inr (by decide)) ?_
        rw [vl, HPv.out.2.2, HGot.out.2.2.2]; rfl
      subst hl1
      have hln : ln = 1 := by have := hL.hlen; simp at this; omega
      subst hln
      obtain ⟨bb, off, rfl, hcell⟩ := hL.cells (by omega)
      have hc0 := hcell 0 (by omega)
      simp only [List.getD_cons_zero, Nat.add_zero] at hc0
      have hlm := hL.hmax
      have hlc := hL.hcap
      unfold maxLen at hlm
      have hB6 := hB5.trans (hb.mono hB5.size)
      clear hb hB5 hP G1 hD vl rl HPv HGot hcell hL
      go_wp2_with fail
      go_ret
      exact ⟨by simp, hB6⟩
    · have hx6 : xe = 6 := by rcases inv_err hr hr' H2.out.1 HX.out with h | h; exact absurd h hxe; exact h
      subst hx6
      go_wp2_with fail
      go_ret
      exact ⟨by simp, hB1⟩

set_option maxRecDepth 100000 in
theorem lifted (os : Os) (started : os.Started) (H : Type) (enc : TypeId × Value → H) :
    ReturnsInHanded {} Try.checked os 6 .any (Rows.modintTwiceSpec.pre6 enc Try.prog Try.f6 Rows.modintTwiceRow.domain false) (Rows.modintTwiceSpec.post enc Try.prog Try.f6 false true false false) := by
  refine returnsInHanded_of_change (C := Try.checked) own started (by kernel_rfl) Try.func6
    (ChangeSpec.witness6 (enc := enc) (C := Try.checked) false ⟨#[], #[.slice none 0 0, .slice none 0 0], []⟩ 8 (by kernel_rfl) (by kernel_rfl) (by kernel_rfl) (by kernel_rfl)) ?_
  intro W base args ds gs before hval0 hW hcnd _
  have hval : ∀ (j : Nat) t v, Try.f6.params[j]? = some t → args[j]? = some v → Value.okWide Try.prog W .any base t v := hval0
  have hW' := hW
  obtain ⟨p, q, hA0, hV, rfl, hfz, hnd⟩ := hW
  have hA : DataW.TrodAll enc Try.prog W 0 (fun _ => true) true Try.f6.params.toList args.toList ds p := hA0
  rw [Try.params6] at hA hval
  obtain ⟨v0, vs0, d0, ds0, p0, q0, hargs, rfl, rfl, h0, r0⟩ := trodAll_cons hA
  obtain ⟨v1, vs1, d1, ds1, p1, q1, rfl, rfl, rfl, h1, r1⟩ := trodAll_cons r0
  obtain ⟨rfl, rfl, rfl⟩ := trodAll_nil r1
  obtain rfl : args = #[v0, v1] := by cases args; simp_all
  obtain ⟨rfl, rfl⟩ := trodVars_none hV
  obtain ⟨a0, len0, cap0, rfl⟩ := okWide_slice Try.underlying23 (hval 0 23 v0 rfl rfl)
  have k0 := h0
  have lt0 : ∀ x ∈ p0, x.block < W.heap.size := by obtain ⟨m, hm⟩ := k0; exact DataW.trod_lt m _ _ _ hm
  obtain ⟨z0, w0⟩ : ∃ zs, IsRow .u64 W a0 len0 cap0 zs := by
    obtain ⟨fuel, hf⟩ := h0
    obtain ⟨a, l, c, zs, e, hz⟩ := open_one hf
    simp at e
    obtain ⟨rfl, rfl, rfl⟩ := e
    exact ⟨zs, hz⟩
  obtain ⟨a1, len1, cap1, rfl⟩ := okWide_slice Try.underlying23 (hval 1 23 v1 rfl rfl)
  have k1 := h1
  have lt1 : ∀ x ∈ p1, x.block < W.heap.size := by obtain ⟨m, hm⟩ := k1; exact DataW.trod_lt m _ _ _ hm
  obtain ⟨z1, w1⟩ : ∃ zs, IsRow .u64 W a1 len1 cap1 zs := by
    obtain ⟨fuel, hf⟩ := h1
    obtain ⟨a, l, c, zs, e, hz⟩ := open_one hf
    simp at e
    obtain ⟨rfl, rfl, rfl⟩ := e
    exact ⟨zs, hz⟩
  clear hA0 hval0
  refine (walk a0 len0 cap0 z0 a1 len1 cap1 z1 W w0 w1).mono fun e W' ⟨he, bel⟩ => ?_
  subst he
  exact ⟨_, rfl, _, _, _, [], _, [], hW', trodAll_mk1 (shut_bool Try.underlying4 _), (trodAll_cons_mk (Below.trod laidOut (by kernel_rfl) (of_decide_eq_true (by kernel_rfl)) k0 bel lt0) (trodAll_cons_mk (Below.trod laidOut (by kernel_rfl) (of_decide_eq_true (by kernel_rfl)) k1 bel lt1) trodAll_mk0)), rfl, bel.frame _, fun h => by cases h⟩

theorem over : Rows.modintTwiceRow.holds Try.pinned (OpenSpec.ofChange Rows.modintTwiceSpec) :=
  OpenClaim.holds_of_wide 6 Try.f6 rfl rfl rfl rfl rfl rfl rfl ⟨rfl, rfl, rfl, rfl, rfl⟩ rfl rfl rfl rfl rfl (by kernel_rfl) Try.func6 (by kernel_rfl)
    (of_decide_eq_true (by kernel_rfl)) (by unfold Func.isWrapper; first | (rw [if_pos (by decide +kernel)]; kernel_rfl) | (rw [if_neg (by decide +kernel)]; exact ⟨rfl, rfl⟩))
    (fun os started H enc _ => lifted os started H enc)

theorem proved : Rows.ModintTwiceSaid := over
end Go.Proofs.Ytaipkganijofjab.modintTwice
namespace Go.Proofs.Ytaipkganijofjab
theorem modintTwice_holds : Rows.ModintTwiceSaid := modintTwice.proved
#print axioms modintTwice_holds
end Go.Proofs.Ytaipkganijofjab

/-
  The statement MontBack holds of the code at the commit that is named beside it, for every input.
-/
import Derived.Test.YtnioobiodiofiaaRows
import Derived.Test.YtnioobiodiofiaaMRef
import Derived.WalkKit
import Derived.ProofKit
import Derived.OpenShut
import Derived.ShutString
import Derived.ChangeOld
import Derived.Below
namespace Go.Proofs.Ytnioobiodiofiaa.montBack
open Go.ChangeShapes Go.WideShapes Go.ChangeAt Go.RowKit
open Go.ChangeMaps (open_string shut_string)
set_option linter.unusedVariables false

theorem own : ownKnob Try.prog.godebug = none := by kernel_rfl
theorem laidOut : laidOutB Try.prog = true := by kernel_rfl

set_option maxHeartbeats 400000 in
theorem walk (a0 : Option Addr) (len0 cap0 : Nat) (z0 : List Int) (a1 : Option Addr) (len1 cap1 : Nat) (z1 : List Int) (a2 : Option Addr) (len2 cap2 : Nat) (z2 : List Int) (w : World) (w0 : IsRow .u64 w a0 len0 cap0 z0) (w1 : IsRow .u64 w a1 len1 cap1 z1) (w2 : IsRow .u64 w a2 len2 cap2 z2) :
    Calls Try.prog 8 #[.slice a0 len0 cap0, .slice a1 len1 cap1, .slice a2 len2 cap2] w fun e w' => e = .returned (.bool true) ∧ Below w.heap.size w w' := by
  have H0 := Nums.of_row w0
  have H1 := Nums.of_row w1
  have H2 := Nums.of_row w2
  generalize z0.take len0 = zs at H0
  generalize z1.take len1 = xs at H1
  generalize z2.take len2 = ys at H2
  clear w0 w1 w2
  go_enter Try.func8, Try.ntmps8
  go_wp2_with fail
  refine (fresh_any _ _ _ _ _ H0).mono ?_
  rintro e v1 ⟨⟨hm, rfl⟩ | ⟨hm, g, f, qs, rfl, hR, hO⟩, hb1⟩
  · go_wp2
    go_ret
    exact ⟨rfl, hb1⟩
  · have X0 := H0.below hb1
    have X1 := H1.below hb1
    have X2 := H2.below hb1
    clear H0 H1 H2
    have I1 := mIn_any _ _ _ _ _ _ _ _ _ hR hO X1
    cases ha : belowB xs zs with
    | false =>
      rw [ha] at I1
      go_wp2_with fail
      refine I1.mono ?_
      rintro e v2 ⟨xa, xn, xc, ls, xe, rfl, hx, hxr, hb2⟩
      have hxe : xe = 1 := by simp [ResRing] at hxr; exact hxr.1
      subst hxe
      have hB2 := hb1.trans (hb2.mono hb1.size)
      have hR2 := hR.below hb2
      have Y2 := X2.below hb2
      clear hxr I1 hb1 hb2 X0 X1 X2 hR
      go_wp2_with fail
      refine (mIn_any _ _ _ _ _ _ _ _ _ hR2 hO Y2).mono ?_
      rintro e v3 ⟨ya, yn, yc, ks, ye, rfl, hy, -, hb3⟩
      have hB3 := hB2.trans (hb3.mono hB2.size)
      go_wp2
      go_ret
      exact ⟨rfl, hB3⟩
    | true =>
      rw [ha] at I1
      go_wp2_with fail
      refine I1.mono ?_
      rintro e v2 ⟨xa, xn, xc, ls, xe, rfl, hx, hxr, hb2⟩
      have hxe : xe = 0 ∧ Red zs (val 18446744073709551616 xs * (18446744073709551616 ^ zs.length * 18446744073709551616 ^ zs.length)) ls := by simpa [ResRing] using hxr
      obtain ⟨rfl, hx1⟩ := hxe
      have HX : Hid (Red zs (val 18446744073709551616 xs * (18446744073709551616 ^ zs.length * 18446744073709551616 ^ zs.length)) ls) := hx1
      have hB2 := hb1.trans (hb2.mono hb1.size)
      have hR2 := hR.below hb2
      have Y0 := X0.below hb2
      have Y1 := X1.below hb2
      have Y2 := X2.below hb2
      clear hxr hx1 I1 hb1 hb2 X0 X1 X2 hR
      have I2 := mIn_any _ _ _ _ _ _ _ _ _ hR2 hO Y2
      cases hbb : belowB ys zs with
      | false =>
        rw [hbb] at I2
        go_wp2_with fail
        refine I2.mono ?_
        rintro e v3 ⟨ya, yn, yc, ks, ye, rfl, hy, hyr, hb3⟩
        have hye : ye = 1 := by simp [ResRing] at hyr; exact hyr.1
        subst hye
        have hB3 := hB2.trans (hb3.mono hB2.size)
        clear hyr I2
        go_wp2
        go_ret
        exact ⟨rfl, hB3⟩
      | true =>
        rw [hbb] at I2
        go_wp2_with fail
        refine I2.mono ?_
        rintro e v3 ⟨ya, yn, yc, ks, ye, rfl, hy, hyr, hb3⟩
        have hye : ye = 0 ∧ Red zs (val 18446744073709551616 ys * (18446744073709551616 ^ zs.length * 18446744073709551616 ^ zs.length)) ks := by simpa [ResRing] using hyr
        obtain ⟨rfl, hy1⟩ := hye
        have HY : Hid (Red zs (val 18446744073709551616 ys * (18446744073709551616 ^ zs.length * 18446744073709551616 ^ zs.length)) ks) := hy1
        have hB3 := hB2.trans (hb3.mono hB2.size)
        have hR3 := hR2.below hb3
        have Z0 := Y0.below hb3
        have Z1 := Y1.below hb3
        have Z2 := Y2.below hb3
        have hx3 := hx.below hb3
        have hM := hO.modOk
        have hbx : belowB ls zs = true := HX.out.belowB hM Z0.digs
        have hby : belowB ks zs = true := HY.out.belowB hM Z0.digs
        clear hyr hy1 I2 hb3 Y0 Y1 Y2 hx hR2 hB2
        have O1 := mOut_any _ _ _ _ _ _ _ _ _ hR3 hO hx3
        rw [hbx] at O1
        go_wp2_with fail
        refine O1.mono ?_
        rintro e v4 ⟨oa, on, oc, os, oe, rfl, ho, hor, hb4⟩
        have hoe : oe = 0 ∧ Red zs (val 18446744073709551616 ls) os := by simpa [ResRing] using hor
        obtain ⟨rfl, ho1⟩ := hoe
        have HO1 : Hid (os = xs) := red_out hM ho1 (red_in hM HX.out) Z1.digs ha (by rw [Int.emod_eq_of_lt (val_nonneg (by decide) Z1.digs) (below_parts ha).2])
        have hB4 := hB3.trans (hb4.mono hB3.size)
        have hR4 := hR3.below hb4
        have W0 := Z0.below hb4
        have W1 := Z1.below hb4
        have W2 := Z2.below hb4
        have hx4 := hx3.below hb4
        have hy4 := hy.below hb4
        clear hor ho1 O1 hb4 Z0 Z1 Z2 hx3 hy hR3 hB3
        have M1 := mMul_any _ _ _ _ _ _ _ _ _ _ _ _ _ hR4 hO hx4 hy4
        rw [hbx, hby] at M1
        go_wp2_with fail
        refine M1.mono ?_
        rintro e v5 ⟨pa, pn, pc, ps, pe, rfl, hp, hpr, hb5⟩
        have hpe : pe = 0 ∧ Red zs (val 18446744073709551616 ls * val 18446744073709551616 ks) ps := by simpa [ResRing] using hpr
        obtain ⟨rfl, hp1⟩ := hpe
        have HP : Hid (val 18446744073709551616 ps % val 18446744073709551616 zs = (val 18446744073709551616 xs * val 18446744073709551616 ys * 18446744073709551616 ^ zs.length) % val 18446744073709551616 zs) := red_prod hM hp1 (red_in hM HX.out) (red_in hM HY.out)
        have hbp : belowB ps zs = true := hp1.belowB hM W0.digs
        have hB5 := hB4.trans (hb5.mono hB4.size)
        have hR5 := hR4.below hb5
        have V0 := W0.below hb5
        have V1 := W1.below hb5
        have V2 := W2.below hb5
        have ho5 := ho.below hb5
        clear hpr hp1 M1 hb5 W0 W1 W2 hx4 hy4 hR4 hB4 HX HY ho
        have O2 := mOut_any _ _ _ _ _ _ _ _ _ hR5 hO hp
        rw [hbp] at O2
        go_wp2_with fail
        refine O2.mono ?_
        rintro e v6 ⟨qa, qn, qc, us, qe, rfl, hq, hqr, hb6⟩
        have hqe : qe = 0 ∧ Red zs (val 18446744073709551616 ps) us := by simpa [ResRing] using hqr
        obtain ⟨rfl, hq1⟩ := hqe
        have HQ : Hid (Red zs (val 18446744073709551616 ps) us) := hq1
        have hB6 := hB5.trans (hb6.mono hB5.size)
        have U0 := V0.below hb6
        have U1 := V1.below hb6
        have U2 := V2.below hb6
        have ho6 := ho5.below hb6
        clear hqr hq1 O2 hb6 V0 V1 V2 hR5 hB5 ho5 hp
        have hos := HO1.out
        subst hos
        clear HO1
        go_wp2_with fail
        refine (same_any _ _ _ _ _ _ _ _ _ ho6 U1).mono ?_
        rintro e v7 ⟨rfl, hb7⟩
        rw [sameB_self]
        have hB7 := hB6.trans (hb7.mono hB6.size)
        have T0 := U0.below hb7
        have T1 := U1.below hb7
        have T2 := U2.below hb7
        have hq7 := hq.below hb7
        clear hb7 U0 U1 U2 hB6 hq ho6
        go_wp2_with fail
        refine (mtimes_any _ _ _ _ _ _ _ _ _ _ _ _ _ T1 T2 T0 hM ha hbb).mono ?_
        rintro e v8 ⟨ta, tn, tc, ts, rfl, ht, htb, htv, hb8⟩
        have hts : us = ts := red_out hM HQ.out HP.out ht.digs htb htv
        subst hts
        have hB8 := hB7.trans (hb8.mono hB7.size)
        have hq8 := hq7.below hb8
        clear htv htb HQ HP hb8 hB7 hq7 T0 T1 T2
        go_wp2_with fail
        refine (same_any _ _ _ _ _ _ _ _ _ hq8 ht).mono ?_
        rintro e v9 ⟨rfl, hb9⟩
        rw [sameB_self]
        have hB9 := hB8.trans (hb9.mono hB8.size)
        clear hb9 hB8 hq8 ht
        go_wp2_with fail
        go_ret
        exact ⟨by simp, hB9⟩

set_option maxRecDepth 100000 in
theorem lifted (os : Os) (started : os.Started) (H : Type) (enc : TypeId × Value → H) :
    ReturnsInHanded {} Try.checked os 8 .any (Rows.montBackSpec.pre6 enc Try.prog Try.f8 Rows.montBackRow.domain false) (Rows.montBackSpec.post enc Try.prog Try.f8 false true false false) := by
  refine returnsInHanded_of_change (C := Try.checked) own started (by kernel_rfl) Try.func8
    (ChangeSpec.witness6 (enc := enc) (C := Try.checked) false ⟨#[], #[.slice none 0 0, .slice none 0 0, .slice none 0 0], []⟩ 8 (by kernel_rfl) (by kernel_rfl) (by kernel_rfl) (by kernel_rfl)) ?_
  intro W base args ds gs before hval0 hW hcnd _
  have hval : ∀ (j : Nat) t v, Try.f8.params[j]? = some t → args[j]? = some v → Value.okWide Try.prog W .any base t v := hval0
  have hW' := hW
  obtain ⟨p, q, hA0, hV, rfl, hfz, hnd⟩ := hW
  have hA : DataW.TrodAll enc Try.prog W 0 (fun _ => true) true Try.f8.params.toList args.toList ds p := hA0
  rw [Try.params8] at hA hval
  obtain ⟨v0, vs0, d0, ds0, p0, q0, hargs, rfl, rfl, h0, r0⟩ := trodAll_cons hA
  obtain ⟨v1, vs1, d1, ds1, p1, q1, rfl, rfl, rfl, h1, r1⟩ := trodAll_cons r0
  obtain ⟨v2, vs2, d2, ds2, p2, q2, rfl, rfl, rfl, h2, r2⟩ := trodAll_cons r1
  obtain ⟨rfl, rfl, rfl⟩ := trodAll_nil r2
  obtain rfl : args = #[v0, v1, v2] := by cases args; simp_all
  obtain ⟨rfl, rfl⟩ := trodVars_none hV
  obtain ⟨a0, len0, cap0, rfl⟩ := okWide_slice Try.underlying23 (hval 0 23 v0 rfl rfl)
  have k0 := h0
  have lt0 : ∀ x ∈ p0, x.block < W.heap.size := by obtain ⟨m, hm⟩ := k0; exact DataW.trod_lt m _ _ _ hm
  obtain ⟨z0, w0⟩ : ∃ zs, IsRow .u64 W a0 len0 cap0 zs := by
    obtain ⟨fuel, hf⟩ := h0
    rcases open_ints Try.underlying23 Try.underlying27 (by kernel_rfl) hf with ⟨hcs, _⟩ | ⟨x, l, c, zs, hcs, _, hl, hm, hz, _, hcell, hwz⟩
    · simp [Value.cells] at hcs
      obtain ⟨rfl, rfl, rfl⟩ := hcs
      exact ⟨[], .inl ⟨rfl, rfl, rfl, rfl⟩⟩
    · simp [Value.cells] at hcs
      obtain ⟨rfl, rfl, rfl⟩ := hcs
      exact ⟨zs, .inr ⟨_, rfl, hl, hm, by simpa using hz, hcell, hwz⟩⟩
  obtain ⟨a1, len1, cap1, rfl⟩ := okWide_slice Try.underlying23 (hval 1 23 v1 rfl rfl)
  have k1 := h1
  have lt1 : ∀ x ∈ p1, x.block < W.heap.size := by obtain ⟨m, hm⟩ := k1; exact DataW.trod_lt m _ _ _ hm
  obtain ⟨z1, w1⟩ : ∃ zs, IsRow .u64 W a1 len1 cap1 zs := by
    obtain ⟨fuel, hf⟩ := h1
    rcases open_ints Try.underlying23 Try.underlying27 (by kernel_rfl) hf with ⟨hcs, _⟩ | ⟨x, l, c, zs, hcs, _, hl, hm, hz, _, hcell, hwz⟩
    · simp [Value.cells] at hcs
      obtain ⟨rfl, rfl, rfl⟩ := hcs
      exact ⟨[], .inl ⟨rfl, rfl, rfl, rfl⟩⟩
    · simp [Value.cells] at hcs
      obtain ⟨rfl, rfl, rfl⟩ := hcs
      exact ⟨zs, .inr ⟨_, rfl, hl, hm, by simpa using hz, hcell, hwz⟩⟩
  obtain ⟨a2, len2, cap2, rfl⟩ := okWide_slice Try.underlying23 (hval 2 23 v2 rfl rfl)
  have k2 := h2
  have lt2 : ∀ x ∈ p2, x.block < W.heap.size := by obtain ⟨m, hm⟩ := k2; exact DataW.trod_lt m _ _ _ hm
  obtain ⟨z2, w2⟩ : ∃ zs, IsRow .u64 W a2 len2 cap2 zs := by
    obtain ⟨fuel, hf⟩ := h2
    rcases open_ints Try.underlying23 Try.underlying27 (by kernel_rfl) hf with ⟨hcs, _⟩ | ⟨x, l, c, zs, hcs, _, hl, hm, hz, _, hcell, hwz⟩
    · simp [Value.cells] at hcs
      obtain ⟨rfl, rfl, rfl⟩ := hcs
      exact ⟨[], .inl ⟨rfl, rfl, rfl, rfl⟩⟩
    · simp [Value.cells] at hcs
      obtain ⟨rfl, rfl, rfl⟩ := hcs
      exact ⟨zs, .inr ⟨_, rfl, hl, hm, by simpa using hz, hcell, hwz⟩⟩
  clear hA0 hval0
  refine (walk a0 len0 cap0 z0 a1 len1 cap1 z1 a2 len2 cap2 z2 W w0 w1 w2).mono fun e W' ⟨he, bel⟩ => ?_
  subst he
  exact ⟨_, rfl, _, _, _, [], _, [], hW', trodAll_mk1 (shut_bool Try.underlying4 _), (trodAll_cons_mk (Below.trod laidOut (by kernel_rfl) (of_decide_eq_true (by kernel_rfl)) k0 bel lt0) (trodAll_cons_mk (Below.trod laidOut (by kernel_rfl) (of_decide_eq_true (by kernel_rfl)) k1 bel lt1) (trodAll_cons_mk (Below.trod laidOut (by kernel_rfl) (of_decide_eq_true (by kernel_rfl)) k2 bel lt2) trodAll_mk0))), rfl, bel.frame _, fun h => by cases h⟩

theorem over : Rows.montBackRow.holds Try.pinned (OpenSpec.ofChange Rows.montBackSpec) :=
  OpenClaim.holds_of_wide 8 Try.f8 rfl rfl rfl rfl rfl rfl rfl ⟨rfl, rfl, rfl, rfl, rfl⟩ rfl rfl rfl rfl rfl (by kernel_rfl) Try.func8 (by kernel_rfl)
    (of_decide_eq_true (by kernel_rfl)) (by unfold Func.isWrapper; first | (rw [if_pos (by decide +kernel)]; kernel_rfl) | (rw [if_neg (by decide +kernel)]; exact ⟨rfl, rfl⟩))
    (fun os started H enc _ => lifted os started H enc)

theorem proved : Rows.MontBackSaid := over
end Go.Proofs.Ytnioobiodiofiaa.montBack
namespace Go.Proofs.Ytnioobiodiofiaa
theorem montBack_holds : Rows.MontBackSaid := montBack.proved
#print axioms montBack_holds
end Go.Proofs.Ytnioobiodiofiaa

/-
  The statement ModintBack holds of the code at the commit that is named beside it, for every input.
-/
import Derived.Test.YtaipkganijofjaaRows
import Derived.Test.YtaipkganijofjaaWFloor
import Derived.Test.YtaipkganijofjaaWSum
import Derived.Lib.SmallJoins
import Derived.WalkKit
import Derived.ProofKit
import Derived.OpenShut
import Derived.ShutString
import Derived.ChangeOld
import Derived.Below
import Derived.Deep.Cut
import Derived.Deep.DeepCutAuto
import Derived.Deep.RegionWith
import Derived.BigRegion
namespace Go.Proofs.Ytaipkganijofjaa.modintBack
open Go.ChangeShapes Go.WideShapes Go.ChangeAt Go.RowKit
open Go.ChangeMaps (open_string shut_string)
set_option linter.unusedVariables false

theorem own : ownKnob Try.prog.godebug = none := by kernel_rfl
theorem laidOut : laidOutB Try.prog = true := by kernel_rfl

theorem open_one {H : Type} {enc : TypeId × Value → H} {W : World} {m : Nat} {c : Value} {x : DataW H × List MemPlace} (hf : DataW.trod enc Try.prog W 0 (fun _ => true) true m 23 [c] = some x) : ∃ a len cap zs, c = .slice a len cap ∧ IsRow .u64 W a len cap zs := by
  rcases open_ints Try.underlying23 Try.underlying36 (by kernel_rfl) hf with ⟨hcs, _⟩ | ⟨x, l, c, zs, hcs, _, hl, hm, hz, _, hcell, hwz⟩
  · simp at hcs
    exact ⟨none, 0, 0, [], hcs, .inl ⟨rfl, rfl, rfl, rfl⟩⟩
  · simp at hcs
    exact ⟨_, _, _, zs, hcs, .inr ⟨_, rfl, hl, hm, by simpa using hz, hcell, hwz⟩⟩

theorem open_whole {H : Type} {enc : TypeId × Value → H} {W : World} {base : Nat} {v : Value} {d : DataW H} {ps : List MemPlace} (hv : Value.okWide Try.prog W .any base 25 v) (h : DataW.Trod enc Try.prog W 0 (fun _ => true) true 25 v d ps) :
    ∃ n a len cap zs, v = .agg #[.bool n, .slice a len cap] ∧ IsRow .u64 W a len cap zs := by
  obtain ⟨v0, v1, y0, y1, m, rfl, _, _, t0, t1⟩ := Go.Joins.open_agg2 Try.underlying25 (by kernel_rfl) (by kernel_rfl) hv h
  obtain ⟨n, e, _⟩ := DataW.trod_bool Try.underlying4 t0
  simp at e
  subst e
  obtain ⟨a, len, cap, zs, rfl, hz⟩ := open_one t1
  exact ⟨n, a, len, cap, zs, rfl, hz⟩

theorem back_long {n : Bool} {zs ys : List Int} (hz : Digs 18446744073709551616 zs) (hr : rightI n zs = true) (hy : Digs 18446744073709551616 ys) (hry : rightB ys = true) (h0 : ys.length ≠ 0) {p : Bool} {ps : List Int} (h : ResW (iv n zs / val 18446744073709551616 ys * val 18446744073709551616 ys) p ps 4) : zs.length = 64 := by
  have hb := rightI_B hr
  have hbp := right_pos hy hry h0
  have hu := val_nonneg (B := 18446744073709551616) (by decide) hz
  have hu64 := val_64 hz hb
  have hb64 := val_64 hy hry
  have hl := right_len hb
  generalize hB : val 18446744073709551616 ys = b at *
  have hm := Int.mul_ediv_add_emod (iv n zs) b
  have hm0 := Int.emod_nonneg (iv n zs) (show b ≠ 0 by omega)
  have hm1 := Int.emod_lt_of_pos (iv n zs) hbp
  rw [Int.mul_comm b] at hm
  have hbig : (18446744073709551616 : Int) ^ 64 ≤ sz (iv n zs / b * b) := by
    rcases h.1 with ⟨h4, _⟩ | ⟨_, _, us, hd, ht, hv, hlen⟩
    · cases h4
    · have h1 := val_ge (B := 18446744073709551616) (by decide) hd ht (by intro e; subst e; simp at hlen)
      have h2 := pow_mono (B := 18446744073709551616) (by decide) (show 64 ≤ us.length - 1 by omega)
      omega
  by_cases h64 : zs.length = 64
  · exact h64
  · exfalso
    have h63 := val_lt_pow (B := 18446744073709551616) (by decide) hz (show zs.length ≤ 63 by omega)
    have hpow : (18446744073709551616 : Int) ^ 63 * 2 ≤ 18446744073709551616 ^ 64 := by decide
    generalize (18446744073709551616 : Int) ^ 64 = M at *
    generalize (18446744073709551616 : Int) ^ 63 = L at *
    generalize hk : iv n zs / b = k at *
    generalize hmm : iv n zs % b = m at *
    cases n with
    | false =>
      have e : iv false zs = val 18446744073709551616 zs := rfl
      rw [e] at hm
      unfold sz at hbig
      split at hbig
      · by_cases hkn : 0 ≤ k
        · have := Int.mul_nonneg hkn (show 0 ≤ b by omega); omega
        · have := Int.mul_le_mul_of_nonneg_right (show k ≤ -1 by omega) (show 0 ≤ b by omega)
          omega
      · omega
    | true =>
      have e : iv true zs = - val 18446744073709551616 zs := rfl
      rw [e] at hm
      unfold sz at hbig
      by_cases hle : b ≤ val 18446744073709551616 zs
      · split at hbig <;> omega
      · by_cases h2 : k ≤ -2
        · have := Int.mul_le_mul_of_nonneg_right h2 (show 0 ≤ b by omega)
          omega
        · have := Int.mul_le_mul_of_nonneg_right (show -1 ≤ k by omega) (show 0 ≤ b by omega)
          split at hbig <;> omega

set_option maxHeartbeats 1600000 in
theorem walk (n0 : Bool) (a0 : Option Addr) (len0 cap0 : Nat) (z0 : List Int) (n1 : Bool) (a1 : Option Addr) (len1 cap1 : Nat) (z1 : List Int) (w : World) (w0 : IsRow .u64 w a0 len0 cap0 z0) (w1 : IsRow .u64 w a1 len1 cap1 z1) :
    Calls Try.prog 8 #[.agg #[.bool n0, .slice a0 len0 cap0], .agg #[.bool n1, .slice a1 len1 cap1]] w fun e w' => e = .returned (.bool true) ∧ Below w.heap.size w w' := by
  have hm0 := (Nums.of_row w0).hmax
  have hcp0 := (Nums.of_row w0).hcap
  have hm1 := (Nums.of_row w1).hmax
  have hcp1 := (Nums.of_row w1).hcap
  unfold maxLen at hm0 hm1
  have B0 := ((Below.refl w.heap.size w).alloc (Nat.le_refl _) (.cells #[.bool n0, .slice a0 len0 cap0] 25)).alloc (by simp) (.cells #[.bool n1, .slice a1 len1 cap1] 25)
  have H0 := (Nums.of_row w0).below B0
  have H1 := (Nums.of_row w1).below B0
  generalize z0.take len0 = zs at H0
  generalize z1.take len1 = ys at H1
  clear w0 w1
  have hl0 := H0.hlen
  have hl1 := H1.hlen
  have HL : Hid (zs.length = len0 ∧ ys.length = len1) := ⟨hl0, hl1⟩
  clear hl0 hl1
  go_enter Try.func8, Try.ntmps8
  go_wp2_with fail
  refine (refIRight_any _ _ _ _ _ _ H0).mono ?_
  rintro e v0 ⟨rfl, hb⟩
  obtain ⟨⟨c0, c1⟩, ⟨d0, d1⟩, -, -⟩ := held22 hb
  have G0 := H0.below hb
  have G1 := H1.below hb
  have hB0 := B0.trans (hb.mono B0.size)
  clear B0 hb H0 H1
  go_wp2_with fail
  refine (refIRight_any _ _ _ _ _ _ G1).mono ?_
  rintro e v1 ⟨rfl, hb⟩
  replace G0 := G0.below hb
  replace G1 := G1.below hb
  replace c0 := bkeep hb c0 rfl
  replace c1 := bkeep hb c1 rfl
  replace d0 := bkeep hb d0 rfl
  replace d1 := bkeep hb d1 rfl
  have hB1 := hB0.trans (hb.mono hB0.size)
  clear hB0 hb
  cases hr : rightI n0 zs with
  | false =>
    go_wp2_with fail
    go_ret
    exact ⟨rfl, hB1⟩
  | true =>
  cases hr' : rightI n1 ys with
  | false =>
    go_wp2_with fail
    go_ret
    exact ⟨rfl, hB1⟩
  | true =>
  cases n1 with
  | true =>
    go_wp2_with fail
    go_ret
    exact ⟨rfl, hB1⟩
  | false =>
  by_cases h0 : len1 = 0
  · subst h0
    go_wp2_with fail
    go_ret
    exact ⟨rfl, hB1⟩
  · have hne : ((len1 : Int) == 0) = false := by simp; omega
    have hy0 : ys.length ≠ 0 := by have := HL.out.2; omega
    have hzd := G0.digs
    have hyd := G1.digs
    go_wp2_with fail
    refine (ifloor_any n0 false _ _ _ _ _ _ _ _ _ G0 G1).mono ?_
    rintro e v2 ⟨p, xa, xn, xc, qs, r, ya, yn, yc, rs, e1, rfl, ⟨hX, hY⟩, hR, hb⟩
    obtain ⟨rfl, hQ, hRr⟩ := floor_got hr hr' hy0 hR
    have hr0 : r = false := by
      have := hRr.2
      have h1 := Int.emod_nonneg (iv n0 zs) (show val 18446744073709551616 ys ≠ 0 by have := right_pos hyd (rightI_B hr') hy0; omega)
      rw [this]; simp; omega
    subst hr0
    have HQ : Hid (ResW (iv n0 zs / val 18446744073709551616 ys) p qs 0) := hQ
    have HRr : Hid (ResW (iv n0 zs % val 18446744073709551616 ys) false rs 0) := hRr
    have hV := ((Below.refl v2.heap.size v2).alloc (Nat.le_refl _) (.cells #[.bool p, .slice xa xn xc] 25)).alloc (by simp) (.cells #[.bool false, .slice ya yn yc] 25)
    have b1 := hb.trans (hV.mono hb.size)
    have X1 := hX.below hV
    have Y1 := hY.below hV
    replace G0 := G0.below b1
    replace G1 := G1.below b1
    replace c0 := bkeep b1 c0 rfl
    replace c1 := bkeep b1 c1 rfl
    replace d0 := bkeep b1 d0 rfl
    replace d1 := bkeep b1 d1 rfl
    obtain ⟨⟨p0, p1⟩, ⟨p2, p3⟩, -, -⟩ := held22 (Below.refl ((v2.alloc (.cells #[.bool p, .slice xa xn xc] 25)).alloc (.cells #[.bool false, .slice ya yn yc] 25)).heap.size ((v2.alloc (.cells #[.bool p, .slice xa xn xc] 25)).alloc (.cells #[.bool false, .slice ya yn yc] 25)))
    have hB2 := hB1.trans (b1.mono hB1.size)
    clear hB1 hb hX hY b1 hR hV hQ hRr
    go_upto_region 8 with fail
    generalize (v2.alloc (.cells #[.bool p, .slice xa xn xc] 25)).alloc (.cells #[.bool false, .slice ya yn yc] 25) = V at *
    generalize v2.heap.size = g at *
    go_wp2_with fail
    refine (imul_any p false _ _ _ _ _ _ _ _ _ X1 G1).mono ?_
    rintro e v3 ⟨p', ma, mn, mc, ps, f, rfl, hM, hMr, hb⟩
    have hMw := Res2I.got HQ.out.got.2.1 hr' hMr
    rw [HQ.out.got.1] at hMw
    have HM : Hid (ResW (iv n0 zs / val 18446744073709551616 ys * val 18446744073709551616 ys) p' ps f) := hMw
    have hV := (Below.refl v3.heap.size v3).alloc (Nat.le_refl _) (.cells #[.bool p', .slice ma mn mc] 25)
    have b1 := hb.trans (hV.mono hb.size)
    have M1 := hM.below hV
    replace Y1 := Y1.below b1
    replace G0 := G0.below b1
    replace G1 := G1.below b1
    replace c0 := bkeep b1 c0 rfl
    replace c1 := bkeep b1 c1 rfl
    replace d0 := bkeep b1 d0 rfl
    replace d1 := bkeep b1 d1 rfl
    replace p2 := bkeep b1 p2 rfl
    replace p3 := bkeep b1 p3 rfl
    have r0 : (v3.alloc (.cells #[.bool p', .slice ma mn mc] 25)).cell? ⟨v3.heap.size, 0, none⟩ = some (.bool p') := by simp
    have r1 : (v3.alloc (.cells #[.bool p', .slice ma mn mc] 25)).cell? ⟨v3.heap.size, 1, none⟩ = some (.slice ma mn mc) := by simp
    have hB3 := hB2.trans (b1.mono hB2.size)
    clear hB2 hb hM b1 hMr hV hMw X1 p0 p1
    go_upto_region 9 with fail
    generalize v3.alloc (.cells #[.bool p', .slice ma mn mc] 25) = V3 at *
    generalize v3.heap.size = g3 at *
    go_wp2_with fail
    refine (iadd_any p' false _ _ _ _ _ _ _ _ _ M1 Y1).mono ?_
    rintro e v4 ⟨q, sa, sn, sc, ss, f2, rfl, hS, hSr, hb⟩
    have HS : Hid (Res2I p' ps false rs (iv p' ps + iv false rs) q ss f2) := hSr
    have hV := (Below.refl v4.heap.size v4).alloc (Nat.le_refl _) (.cells #[.bool q, .slice sa sn sc] 25)
    have b1 := hb.trans (hV.mono hb.size)
    have S1 := hS.below hV
    replace Y1 := Y1.below b1
    replace G0 := G0.below b1
    replace G1 := G1.below b1
    replace c0 := bkeep b1 c0 rfl
    replace c1 := bkeep b1 c1 rfl
    replace d0 := bkeep b1 d0 rfl
    replace d1 := bkeep b1 d1 rfl
    replace p2 := bkeep b1 p2 rfl
    replace p3 := bkeep b1 p3 rfl
    have s0 : (v4.alloc (.cells #[.bool q, .slice sa sn sc] 25)).cell? ⟨v4.heap.size, 0, none⟩ = some (.bool q) := by simp
    have s1 : (v4.alloc (.cells #[.bool q, .slice sa sn sc] 25)).cell? ⟨v4.heap.size, 1, none⟩ = some (.slice sa sn sc) := by simp
    have hB4 := hB3.trans (b1.mono hB3.size)
    clear hB3 hb hS b1 hSr hV M1 r0 r1
    go_upto_region 10 with fail
    generalize v4.alloc (.cells #[.bool q, .slice sa sn sc] 25) = V4 at *
    generalize v4.heap.size = g4 at *
    by_cases hf : f = 4
    · subst hf
      have h64 := back_long hzd hr hyd (rightI_B hr') hy0 HM.out
      have h64' : len0 = 64 := by have := HL.out.1; omega
      subst h64'
      clear h64
      go_wp2_with fail
      go_ret
      exact ⟨by simp, hB4⟩
    · have hf0 : f = 0 := by
        rcases HM.out.1 with ⟨h, _⟩ | ⟨h, _⟩
        · exact h
        · exact absurd h hf
      subst hf0
      have hw := Res2I.got HM.out.got.2.1 HRr.out.got.2.1 HS.out
      rw [HM.out.got.1, HRr.out.got.1, Int.mul_comm, Int.mul_ediv_add_emod] at hw
      obtain ⟨rfl, rfl, rfl⟩ := hw.unique (resw_self hzd hr)
      have hcmp : cmpI false rs false ys = -1 := by
        have h1 := HRr.out.got
        have h2 : val 18446744073709551616 rs = iv q ss % val 18446744073709551616 ys := h1.1
        have h3 := Int.emod_lt_of_pos (iv q ss) (right_pos hyd (rightI_B hr') hy0)
        simp only [cmpI, h1.2.1, hr', cmpN, rightI_B h1.2.1, rightI_B hr', Bool.and_self, if_true]
        exact cmpZ_lt (by omega)
      have HC : Hid (cmpI false rs false ys = -1) := hcmp
      clear hw hcmp hf HM HS HQ HRr
      go_wp2_with fail
      refine (isame_eq V4 q _ _ _ _ _ _ _ _ S1 G0 (Below.refl _ _)).mono ?_
      rintro e v5 ⟨rfl, hb⟩
      replace Y1 := Y1.below hb
      replace G1 := G1.below hb
      replace d0 := bkeep hb d0 rfl
      replace d1 := bkeep hb d1 rfl
      replace p2 := bkeep hb p2 rfl
      replace p3 := bkeep hb p3 rfl
      have hB5 := hB4.trans (hb.mono hB4.size)
      clear hB4 hb S1 G0 s0 s1 c0 c1
      go_wp2_with fail
      refine (icmp_any false false _ _ _ _ _ _ _ _ _ Y1 G1).mono ?_
      rintro e v6 ⟨rfl, hb⟩
      rw [HC.out]
      have hB6 := hB5.trans (hb.mono hB5.size)
      clear hB5 hb Y1 G1 d0 d1 p2 p3
      go_wp2_with fail
      go_ret
      exact ⟨by simp, hB6⟩

set_option maxRecDepth 100000 in
theorem lifted (os : Os) (started : os.Started) (H : Type) (enc : TypeId × Value → H) :
    ReturnsInHanded {} Try.checked os 8 .any (Rows.modintBackSpec.pre6 enc Try.prog Try.f8 Rows.modintBackRow.domain false) (Rows.modintBackSpec.post enc Try.prog Try.f8 false true false false) := by
  refine returnsInHanded_of_change (C := Try.checked) own started (by kernel_rfl) Try.func8
    (ChangeSpec.witness6 (enc := enc) (C := Try.checked) false ⟨#[], #[.agg #[.bool false, .slice none 0 0], .agg #[.bool false, .slice none 0 0]], []⟩ 8 (by kernel_rfl) (by kernel_rfl) (by kernel_rfl) (by kernel_rfl)) ?_
  intro W base args ds gs before hval0 hW hcnd _
  have hval : ∀ (j : Nat) t v, Try.f8.params[j]? = some t → args[j]? = some v → Value.okWide Try.prog W .any base t v := hval0
  have hW' := hW
  obtain ⟨p, q, hA0, hV, rfl, hfz, hnd⟩ := hW
  have hA : DataW.TrodAll enc Try.prog W 0 (fun _ => true) true Try.f8.params.toList args.toList ds p := hA0
  rw [Try.params8] at hA hval
  obtain ⟨v0, vs0, d0, ds0, p0, q0, hargs, rfl, rfl, h0, r0⟩ := trodAll_cons hA
  obtain ⟨v1, vs1, d1, ds1, p1, q1, rfl, rfl, rfl, h1, r1⟩ := trodAll_cons r0
  obtain ⟨rfl, rfl, rfl⟩ := trodAll_nil r1
  obtain rfl : args = #[v0, v1] := by cases args; simp_all
  obtain ⟨rfl, rfl⟩ := trodVars_none hV
  have k0 := h0
  have lt0 : ∀ x ∈ p0, x.block < W.heap.size := by obtain ⟨m, hm⟩ := k0; exact DataW.trod_lt m _ _ _ hm
  obtain ⟨n0, a0, len0, cap0, z0, hv0, w0⟩ := open_whole (hval 0 25 v0 rfl rfl) h0
  subst hv0
  have k1 := h1
  have lt1 : ∀ x ∈ p1, x.block < W.heap.size := by obtain ⟨m, hm⟩ := k1; exact DataW.trod_lt m _ _ _ hm
  obtain ⟨n1, a1, len1, cap1, z1, hv1, w1⟩ := open_whole (hval 1 25 v1 rfl rfl) h1
  subst hv1
  clear hA0 hval0
  refine (walk n0 a0 len0 cap0 z0 n1 a1 len1 cap1 z1 W w0 w1).mono fun e W' ⟨he, bel⟩ => ?_
  subst he
  exact ⟨_, rfl, _, _, _, [], _, [], hW', trodAll_mk1 (shut_bool Try.underlying4 _), (trodAll_cons_mk (Below.trod laidOut (by kernel_rfl) (of_decide_eq_true (by kernel_rfl)) k0 bel lt0) (trodAll_cons_mk (Below.trod laidOut (by kernel_rfl) (of_decide_eq_true (by kernel_rfl)) k1 bel lt1) trodAll_mk0)), rfl, bel.frame _, fun h => by cases h⟩

theorem over : Rows.modintBackRow.holds Try.pinned (OpenSpec.ofChange Rows.modintBackSpec) :=
  OpenClaim.holds_of_wide 8 Try.f8 rfl rfl rfl rfl rfl rfl rfl ⟨rfl, rfl, rfl, rfl, rfl⟩ rfl rfl rfl rfl rfl (by kernel_rfl) Try.func8 (by kernel_rfl)
    (of_decide_eq_true (by kernel_rfl)) (by unfold Func.isWrapper; first | (rw [if_pos (by decide +kernel)]; kernel_rfl) | (rw [if_neg (by decide +kernel)]; exact ⟨rfl, rfl⟩))
    (fun os started H enc _ => lifted os started H enc)

theorem proved : Rows.ModintBackSaid := over
end Go.Proofs.Ytaipkganijofjaa.modintBack
namespace Go.Proofs.Ytaipkganijofjaa
theorem modintBack_holds : Rows.ModintBackSaid := modintBack.proved
#print axioms modintBack_holds
end Go.Proofs.Ytaipkganijofjaa

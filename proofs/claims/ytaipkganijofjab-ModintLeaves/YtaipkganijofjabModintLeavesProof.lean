/-
  The statement ModintLeaves holds of the code at the commit that is named beside it, for every input.
-/
import Derived.Test.YtaipkganijofjabRows
import Derived.Test.YtaipkganijofjabCrtC
import Derived.Test.YtaipkganijofjabRefGcd
import Derived.Test.YtaipkganijofjabFew3
import Derived.WalkKit
import Derived.ProofKit
import Derived.OpenShut
import Derived.ShutString
import Derived.ChangeOld
import Derived.Below
import Derived.Deep.Cut
import Derived.Deep.DeepCutAuto
import Derived.Deep.RegionWith
import Derived.BigRegion
namespace Go.Proofs.Ytaipkganijofjab.modintLeaves
open Go.ChangeShapes Go.WideShapes Go.ChangeAt Go.RowKit
open Go.ChangeMaps (open_string shut_string)
set_option linter.unusedVariables false

theorem own : ownKnob Try.prog.godebug = none := by kernel_rfl
theorem laidOut : laidOutB Try.prog = true := by kernel_rfl

theorem open_one {H : Type} {enc : TypeId × Value → H} {W : World} {m : Nat} {c : Value} {x : DataW H × List MemPlace} (hf : DataW.trod enc Try.prog W 0 (fun _ => true) true m 23 [c] = some x) : ∃ a len cap zs, c = .slice a len cap ∧ IsRow .u64 W a len cap zs := by
  rcases open_ints Try.underlying23 Try.underlying29 (by kernel_rfl) hf with ⟨hcs, _⟩ | ⟨x, l, c, zs, hcs, _, hl, hm, hz, _, hcell, hwz⟩
  · simp at hcs
    exact ⟨none, 0, 0, [], hcs, .inl ⟨rfl, rfl, rfl, rfl⟩⟩
  · simp at hcs
    exact ⟨_, _, _, zs, hcs, .inr ⟨_, rfl, hl, hm, by simpa using hz, hcell, hwz⟩⟩

set_option maxRecDepth 100000 in
theorem open_arr2 {H : Type} {enc : TypeId × Value → H} {W : World} {base : Nat} {v : Value} {d : DataW H} {ps : List MemPlace} (hv : Value.okWide Try.prog W .any base 30 v) (h : DataW.Trod enc Try.prog W 0 (fun _ => true) true 30 v d ps) :
    ∃ a0 len0 cap0 z0 a1 len1 cap1 z1, v = .agg #[.slice a0 len0 cap0, .slice a1 len1 cap1] ∧ IsRow .u64 W a0 len0 cap0 z0 ∧ IsRow .u64 W a1 len1 cap1 z1 := by
  have hu : Try.prog.underlying 30 = some (.array 2 23) := Try.underlying30
  have hce : Try.prog.cellsOf 23 = 1 := by kernel_rfl
  have hca : Try.prog.cellsOf 30 = 2 := by kernel_rfl
  simp only [Value.okWide, hu] at hv
  obtain ⟨cs, rfl, hsz, _⟩ := hv
  rw [hca] at hsz
  obtain ⟨c0, c1, rfl⟩ : ∃ c0 c1, cs = #[c0, c1] := by
    obtain ⟨l⟩ := cs
    match l, hsz with
    | [c0, c1], _ => exact ⟨c0, c1, rfl⟩
  obtain ⟨fuel, hf⟩ := h
  obtain ⟨xs, m, _, _, _, hl, hx⟩ := DataW.trod_array hu hf
  have q0 := hx 0 (by decide)
  rw [hce] at q0
  obtain ⟨x0, e0⟩ : ∃ x0, xs[0]? = some x0 := ⟨_, List.getElem?_eq_getElem (by omega)⟩
  rw [e0] at q0
  obtain ⟨a0, len0, cap0, z0, rfl, w0⟩ := open_one (c := c0) (by simpa [Value.cells] using q0)
  have q1 := hx 1 (by decide)
  rw [hce] at q1
  obtain ⟨x1, e1⟩ : ∃ x1, xs[1]? = some x1 := ⟨_, List.getElem?_eq_getElem (by omega)⟩
  rw [e1] at q1
  obtain ⟨a1, len1, cap1, z1, rfl, w1⟩ := open_one (c := c1) (by simpa [Value.cells] using q1)
  exact ⟨a0, len0, cap0, z0, a1, len1, cap1, z1, rfl, w0, w1⟩

theorem crt_one {ls : List Int} {e : Int} (h : ResCrt [1] [2] [1] [3] ls e) : ls.length = 1 := by
  unfold ResCrt at h
  rw [show (isRestB [1] [2] && isRestB [1] [3]) = true by decide, if_pos rfl] at h
  obtain ⟨ks, f, hi, h0, h1⟩ := h
  have hf : f = 0 := by
    unfold ResInv at hi
    rw [show (rightB [2] && (rightB [3] && decide (2 ≤ val 18446744073709551616 [3]))) = true by decide, if_pos rfl, show val 18446744073709551616 [3] = 3 by decide, show val 18446744073709551616 [2] = 2 by decide, if_pos (by decide)] at hi
    exact hi.1
  obtain ⟨_, d, r, v⟩ := h0 hf
  have e1 : val 18446744073709551616 ls = 1 := by
    rw [v, show val 18446744073709551616 [1] = 1 by decide]; simp
  have : ls = [1] := val_inj (by decide) d (by intro x hx; simp at hx; omega) (right_top r) (.inr (by decide)) (by rw [e1]; decide)
  rw [this]; rfl

theorem crt_not {zs ms ys ns ls : List Int} {e : Int} (h : ResCrt zs ms ys ns ls e) (he : e ≠ 0) : ls = [] := by
  unfold ResCrt at h
  split at h
  · obtain ⟨ks, f, hi, h0, h1⟩ := h
    by_cases hf : f = 0
    · exact absurd (h0 hf).1 he
    · exact (h1 hf).2
  · exact h.2

theorem leaves_math {zs ms ys ns xs : List Int} (hz : Digs 18446744073709551616 zs) (hm : Digs 18446744073709551616 ms) (hy : Digs 18446744073709551616 ys) (hn : Digs 18446744073709551616 ns) (h : ResCrt zs ms ys ns xs 0) :
    ((rightB zs = true ∧ rightB ms = true) ∧ (rightB ys = true ∧ rightB ns = true)) ∧ (ms.length ≠ 0 ∧ ns.length ≠ 0) ∧ (Digs 18446744073709551616 xs ∧ rightB xs = true) ∧ (val 18446744073709551616 xs < val 18446744073709551616 ms * val 18446744073709551616 ns ∧ val 18446744073709551616 ms * val 18446744073709551616 ns < 18446744073709551616 ^ 64) ∧ val 18446744073709551616 xs % val 18446744073709551616 ms = val 18446744073709551616 zs ∧ val 18446744073709551616 xs % val 18446744073709551616 ns = val 18446744073709551616 ys := by
  unfold ResCrt at h
  split at h
  · rename_i hc
    simp only [Bool.and_eq_true] at hc
    obtain ⟨rz, rm, lm8, m2, zm⟩ := isRest_got hc.1
    obtain ⟨ry, rn, ln8, n2, yn⟩ := isRest_got hc.2
    obtain ⟨ks, f, hi, h0, h1⟩ := h
    have hf : f = 0 := by
      by_cases hf : f = 0
      · exact hf
      · exact (h1 hf).1.symm
    subst hf
    obtain ⟨_, d, r, v⟩ := h0 rfl
    unfold ResInv at hi
    rw [rm, rn, decide_eq_true n2, if_pos (by rfl)] at hi
    split at hi
    · obtain ⟨_, kd, kr, kl, kv⟩ := hi
      have nz := val_nonneg (B := 18446744073709551616) (by decide) hz
      have ny := val_nonneg (B := 18446744073709551616) (by decide) hy
      have nk := val_nonneg (B := 18446744073709551616) (by decide) kd
      have hm8 := val_lt_pow (B := 18446744073709551616) (by decide) hm lm8
      have hn8 := val_lt_pow (B := 18446744073709551616) (by decide) hn ln8
      obtain ⟨-, -, -, h3, h4, h5⟩ := crt_sizes ⟨nz, zm⟩ ⟨ny, yn⟩ hm8 hn8 ⟨nk, kl⟩
      have e64 : (18446744073709551616 : Int) ^ 16 < 18446744073709551616 ^ 64 := by decide
      refine ⟨⟨⟨rz, rm⟩, ry, rn⟩, ⟨?_, ?_⟩, ⟨d, r⟩, ⟨by rw [v]; exact h4, by omega⟩, ?_, ?_⟩
      · intro e; have : ms = [] := List.eq_nil_of_length_eq_zero e; subst this; simp [val] at m2
      · intro e; have : ns = [] := List.eq_nil_of_length_eq_zero e; subst this; simp [val] at n2
      · rw [v, Int.add_mul_emod_self_right, Int.emod_eq_of_lt nz zm]
      · generalize val 18446744073709551616 zs = A at *
        generalize val 18446744073709551616 ys = B at *
        generalize val 18446744073709551616 ms = M at *
        generalize val 18446744073709551616 ns = N at *
        generalize val 18446744073709551616 ks = K at *
        have e1 : (B - A) * K % N * M % N = (B - A) % N := by
          rw [Int.mul_emod, Int.emod_emod, ← Int.mul_emod, Int.mul_assoc, Int.mul_comm K M, Int.mul_emod, kv, Int.mul_one, Int.emod_emod]
        rw [v, Int.add_emod, e1, ← Int.add_emod, show A + (B - A) = B by omega, Int.emod_eq_of_lt ny yn]
    · exact absurd hi.1 (by decide)
  · exact absurd h.1 (by decide)

set_option maxHeartbeats 1600000 in
theorem walk (a0 : Option Addr) (len0 cap0 : Nat) (z0 : List Int) (a1 : Option Addr) (len1 cap1 : Nat) (z1 : List Int) (a2 : Option Addr) (len2 cap2 : Nat) (z2 : List Int) (a3 : Option Addr) (len3 cap3 : Nat) (z3 : List Int) (w : World) (w0 : IsRow .u64 w a0 len0 cap0 z0) (w1 : IsRow .u64 w a1 len1 cap1 z1) (w2 : IsRow .u64 w a2 len2 cap2 z2) (w3 : IsRow .u64 w a3 len3 cap3 z3) :
    Calls Try.prog 7 #[.agg #[.slice a0 len0 cap0, .slice a1 len1 cap1], .agg #[.slice a2 len2 cap2, .slice a3 len3 cap3]] w fun e w' => e = .returned (.bool true) ∧ Below w.heap.size w w' := by
  have B0 := ((Below.refl w.heap.size w).alloc (Nat.le_refl _) (.cells #[.slice a0 len0 cap0, .slice a1 len1 cap1] 30)).alloc (by simp) (.cells #[.slice a2 len2 cap2, .slice a3 len3 cap3] 30)
  have H0 := (Nums.of_row w0).below B0
  have H1 := (Nums.of_row w1).below B0
  have H2 := (Nums.of_row w2).below B0
  have H3 := (Nums.of_row w3).below B0
  generalize z0.take len0 = zs at H0
  generalize z1.take len1 = ys at H1
  generalize z2.take len2 = ms at H2
  generalize z3.take len3 = ns at H3
  clear w0 w1 w2 w3
  have F := few_four a0 a2 a1 a3 len0 cap0 len2 cap2 len1 cap1 len3 cap3 _ _ _ _ _ H0 H2 H1 H3
  have hz : ((w.alloc (.cells #[.slice a0 len0 cap0, .slice a1 len1 cap1] 30)).alloc (.cells #[.slice a2 len2 cap2, .slice a3 len3 cap3] 30)).heap.size = w.heap.size + 1 + 1 := by simp
  rw [hz] at F
  cases hf : manyB 70 [len0, len2, len1, len3] with
  | false =>
    rw [hf] at F
    go_enter Try.func7, Try.ntmps7
    go_wp2_with fail
    refine F.mono ?_
    rintro e w' ⟨rfl, -, -, -, -, hb⟩
    have hB := B0.trans (hb.mono (by first | omega | (rw [hz]; omega)))
    go_wp2_with fail
    go_ret
    exact ⟨rfl, hB⟩
  | true =>
    rw [hf] at F
    clear H0 H1 H2 H3 hf
    go_enter Try.func7, Try.ntmps7
    go_wp2_with fail
    refine F.mono ?_
    rintro e v0 ⟨rfl, G0, G2, G1, G3, hb⟩
    have hB0 := B0.trans (hb.mono (by first | omega | (rw [hz]; omega)))
    clear F B0 hb hz
    have L1 := Nums.lit1 v0 1 (by omega) 29
    have L2 := Nums.lit1 (v0.alloc (.cells #[.int .u64 1] 29)) 2 (by omega) 29
    have L3 := Nums.lit1 ((v0.alloc (.cells #[.int .u64 1] 29)).alloc (.cells #[.int .u64 2] 29)) 1 (by omega) 29
    have L4 := Nums.lit1 (((v0.alloc (.cells #[.int .u64 1] 29)).alloc (.cells #[.int .u64 2] 29)).alloc (.cells #[.int .u64 1] 29)) 3 (by omega) 29
    replace L1 := ((L1.growD (.cells #[.int .u64 2] 29)).growD (.cells #[.int .u64 1] 29)).growD (.cells #[.int .u64 3] 29)
    replace L2 := (L2.growD (.cells #[.int .u64 1] 29)).growD (.cells #[.int .u64 3] 29)
    replace L3 := L3.growD (.cells #[.int .u64 3] 29)
    simp only [World.size_alloc] at L2 L3 L4
    have hV := bgrowD (bgrowD (bgrowD (bgrowD (Below.refl v0.heap.size v0) (.cells #[.int .u64 1] 29)) (.cells #[.int .u64 2] 29)) (.cells #[.int .u64 1] 29)) (.cells #[.int .u64 3] 29)
    replace G0 := G0.below hV
    replace G1 := G1.below hV
    replace G2 := G2.below hV
    replace G3 := G3.below hV
    have hB1 := hB0.trans (hV.mono hB0.size)
    clear hB0 hV
    go_wp2_with fail
    refine (crt_any _ _ _ _ _ _ _ _ _ _ _ _ [1] [2] [1] [3] _ L1 L2 L3 L4).mono ?_
    rintro e v1 ⟨oa, on, oc, os, oe, rfl, hO, hOr, hb⟩
    have ho : on = 1 := by have := crt_one hOr; have := hO.hlen; omega
    subst ho
    replace G0 := G0.below hb
    replace G1 := G1.below hb
    replace G2 := G2.below hb
    replace G3 := G3.below hb
    have hB2 := hB1.trans (hb.mono hB1.size)
    clear hB1 hb hOr L1 L2 L3 L4 hO
    go_wp2_with fail
    refine (crt_any _ _ _ _ _ _ _ _ _ _ _ _ _ _ _ _ _ G0 G2 G1 G3).mono ?_
    rintro e v2 ⟨xa, xn, xc, xs, xe, rfl, hX, hXr, hb⟩
    have HX : Hid (ResCrt zs ms ys ns xs xe) := hXr
    replace G0 := G0.below hb
    replace G1 := G1.below hb
    replace G2 := G2.below hb
    replace G3 := G3.below hb
    have hB3 := hB2.trans (hb.mono hB2.size)
    clear hB2 hb hXr
    by_cases hxe : xe = 0
    · subst hxe
      have hzd := G0.digs
      have hyd := G1.digs
      obtain ⟨⟨⟨rz, rm⟩, ry, rn⟩, ⟨m0, n0⟩, ⟨xd, xr⟩, ⟨hlt, h64⟩, vm, vn⟩ := leaves_math hzd G2.digs hyd G3.digs HX.out
      have HM := (show Hid _ from And.intro hlt (And.intro h64 (And.intro vm (And.intro vn (And.intro m0 n0)))))
      clear hlt h64 vm vn HX m0 n0
      go_wp2_with fail
      refine (refMul_any _ _ _ _ _ _ _ _ _ G2 G3).mono ?_
      rintro e v3 ⟨pa, pn, pc, ps, pe, rfl, hP, hPr, hb⟩
      have hp := res_fits (hPr.got rm rn) HM.out.2.1
      have HP := (show Hid _ from hp)
      replace G0 := G0.below hb
      replace G1 := G1.below hb
      replace G2 := G2.below hb
      replace G3 := G3.below hb
      replace hX := hX.below hb
      have hB4 := hB3.trans (hb.mono hB3.size)
      clear hB3 hb hPr hp
      go_wp2_with fail
      refine (refRest_any _ _ _ _ _ _ _ _ _ hX G2).mono ?_
      rintro e v4 ⟨ra, rn', rc, rs, qs, err, rfl, hR, hD, hb⟩
      obtain ⟨-, ⟨-, rr⟩, -, -, vr⟩ := ResDiv.parts xr rm HM.out.2.2.2.2.1 hD
      have hrz : rs = zs := val_inj (by decide) hR.digs hzd (right_top rr) (right_top rz) (vr.trans HM.out.2.2.1)
      subst hrz
      replace G0 := G0.below hb
      replace G1 := G1.below hb
      replace G3 := G3.below hb
      replace hX := hX.below hb
      replace hP := hP.below hb
      have hB5 := hB4.trans (hb.mono hB4.size)
      clear hB4 hb hD vr G2
      go_wp2_with fail
      refine (refRest_any _ _ _ _ _ _ _ _ _ hX G3).mono ?_
      rintro e v5 ⟨sa, sn, sc, ss, qs', err', rfl, hS, hD, hb⟩
      obtain ⟨-, ⟨-, rs'⟩, -, -, vs'⟩ := ResDiv.parts xr rn HM.out.2.2.2.2.2 hD
      have hsy : ss = ys := val_inj (by decide) hS.digs hyd (right_top rs') (right_top ry) (vs'.trans HM.out.2.2.2.1)
      subst hsy
      replace G0 := G0.below hb
      replace G1 := G1.below hb
      replace hX := hX.below hb
      replace hP := hP.below hb
      replace hR := hR.below hb
      have hB6 := hB5.trans (hb.mono hB5.size)
      clear hB5 hb hD vs' G3
      go_wp2_with fail
      refine (same_any _ _ _ _ _ _ _ _ _ hR G0).mono ?_
      rintro e v6 ⟨rfl, hb⟩
      rw [sameB_self]
      replace G1 := G1.below hb
      replace hX := hX.below hb
      replace hP := hP.below hb
      replace hS := hS.below hb
      have hB7 := hB6.trans (hb.mono hB6.size)
      clear hB6 hb hR G0
      go_wp2_with fail
      refine (same_any _ _ _ _ _ _ _ _ _ hS G1).mono ?_
      rintro e v7 ⟨rfl, hb⟩
      rw [sameB_self]
      replace hX := hX.below hb
      replace hP := hP.below hb
      have hB8 := hB7.trans (hb.mono hB7.size)
      clear hB7 hb hS G1
      obtain ⟨cc, hcc⟩ : ∃ cc, cc = cmpN xs ps := ⟨_, rfl⟩
      have hc0 : cc < 0 := by rw [hcc]; exact (cmpN_lt xr HP.out.2.2.1).2 (by rw [HP.out.2.2.2]; exact HM.out.1)
      have HC : Hid (cc = cmpN xs ps) := hcc
      clear hcc HM HP
      go_wp2_with fail
      refine (refCmp_any _ _ _ _ _ _ _ _ _ hX hP).mono ?_
      rintro e v8 ⟨rfl, hb⟩
      rw [← HC.out]
      have hB9 := hB8.trans (hb.mono hB8.size)
      clear hB8 hb hX hP
      go_wp2_with fail
      go_ret
      exact ⟨by simp, hB9⟩
    · have hxs := crt_not HX.out hxe
      have hx0 : xn = 0 := by have := hX.hlen; rw [hxs] at this; simp at this; omega
      subst hx0
      have hq : (xe == 0) = false := by simp [hxe]
      clear hxs
      go_wp2_with fail
      go_ret
      exact ⟨by simp, hB3⟩

set_option maxRecDepth 100000 in
theorem lifted (os : Os) (started : os.Started) (H : Type) (enc : TypeId × Value → H) :
    ReturnsInHanded {} Try.checked os 7 .any (Rows.modintLeavesSpec.pre6 enc Try.prog Try.f7 Rows.modintLeavesRow.domain false) (Rows.modintLeavesSpec.post enc Try.prog Try.f7 false true false false) := by
  refine returnsInHanded_of_change (C := Try.checked) own started (by kernel_rfl) Try.func7
    (ChangeSpec.witness6 (enc := enc) (C := Try.checked) false ⟨#[], #[.agg #[.slice none 0 0, .slice none 0 0], .agg #[.slice none 0 0, .slice none 0 0]], []⟩ 8 (by kernel_rfl) (by kernel_rfl) (by kernel_rfl) (by kernel_rfl)) ?_
  intro W base args ds gs before hval0 hW hcnd _
  have hval : ∀ (j : Nat) t v, Try.f7.params[j]? = some t → args[j]? = some v → Value.okWide Try.prog W .any base t v := hval0
  have hW' := hW
  obtain ⟨p, q, hA0, hV, rfl, hfz, hnd⟩ := hW
  have hA : DataW.TrodAll enc Try.prog W 0 (fun _ => true) true Try.f7.params.toList args.toList ds p := hA0
  rw [Try.params7] at hA hval
  obtain ⟨v0, vs0, d0, ds0, p0, q0, hargs, rfl, rfl, h0, r0⟩ := trodAll_cons hA
  obtain ⟨v1, vs1, d1, ds1, p1, q1, rfl, rfl, rfl, h1, r1⟩ := trodAll_cons r0
  obtain ⟨rfl, rfl, rfl⟩ := trodAll_nil r1
  obtain rfl : args = #[v0, v1] := by cases args; simp_all
  obtain ⟨rfl, rfl⟩ := trodVars_none hV
  have k0 := h0
  have lt0 : ∀ x ∈ p0, x.block < W.heap.size := by obtain ⟨m, hm⟩ := k0; exact DataW.trod_lt m _ _ _ hm
  obtain ⟨a0, len0, cap0, z0, a1, len1, cap1, z1, hv0, w0, w1⟩ := open_arr2 (hval 0 30 v0 rfl rfl) h0
  subst hv0
  have k1 := h1
  have lt1 : ∀ x ∈ p1, x.block < W.heap.size := by obtain ⟨m, hm⟩ := k1; exact DataW.trod_lt m _ _ _ hm
  obtain ⟨a2, len2, cap2, z2, a3, len3, cap3, z3, hv1, w2, w3⟩ := open_arr2 (hval 1 30 v1 rfl rfl) h1
  subst hv1
  clear hA0 hval0
  refine (walk a0 len0 cap0 z0 a1 len1 cap1 z1 a2 len2 cap2 z2 a3 len3 cap3 z3 W w0 w1 w2 w3).mono fun e W' ⟨he, bel⟩ => ?_
  subst he
  exact ⟨_, rfl, _, _, _, [], _, [], hW', trodAll_mk1 (shut_bool Try.underlying4 _), (trodAll_cons_mk (Below.trod laidOut (by kernel_rfl) (of_decide_eq_true (by kernel_rfl)) k0 bel lt0) (trodAll_cons_mk (Below.trod laidOut (by kernel_rfl) (of_decide_eq_true (by kernel_rfl)) k1 bel lt1) trodAll_mk0)), rfl, bel.frame _, fun h => by cases h⟩

theorem over : Rows.modintLeavesRow.holds Try.pinned (OpenSpec.ofChange Rows.modintLeavesSpec) :=
  OpenClaim.holds_of_wide 7 Try.f7 rfl rfl rfl rfl rfl rfl rfl ⟨rfl, rfl, rfl, rfl, rfl⟩ rfl rfl rfl rfl rfl (by kernel_rfl) Try.func7 (by kernel_rfl)
    (of_decide_eq_true (by kernel_rfl)) (by unfold Func.isWrapper; first | (rw [if_pos (by decide +kernel)]; kernel_rfl) | (rw [if_neg (by decide +kernel)]; exact ⟨rfl, rfl⟩))
    (fun os started H enc _ => lifted os started H enc)

theorem proved : Rows.ModintLeavesSaid := over
end Go.Proofs.Ytaipkganijofjab.modintLeaves
namespace Go.Proofs.Ytaipkganijofjab
theorem modintLeaves_holds : Rows.ModintLeavesSaid := modintLeaves.proved
#print axioms modintLeaves_holds
end Go.Proofs.Ytaipkganijofjab

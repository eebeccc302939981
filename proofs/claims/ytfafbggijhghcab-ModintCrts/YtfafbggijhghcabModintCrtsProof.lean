/-
  The statement ModintCrts holds of the code at the commit that is named beside it, for every input.
-/
import Derived.Test.YtfafbggijhghcabRows
import Derived.Test.YtfafbggijhghcabRefCrt
import Derived.Test.YtfafbggijhghcabRefInv
import Derived.Test.YtfafbggijhghcabNatA
import Derived.WalkKit
import Derived.ProofKit
import Derived.OpenShut
import Derived.ShutString
import Derived.ChangeOld
import Derived.Below
import Derived.Deep.Cut
import Derived.Deep.DeepCutAuto
import Derived.Deep.RegionWith
import Derived.BigRegion
namespace Go.Proofs.Ytfafbggijhghcab.modintCrts
open Go.ChangeShapes Go.WideShapes Go.ChangeAt Go.RowKit
open Go.ChangeMaps (open_string shut_string)
set_option linter.unusedVariables false

theorem own : ownKnob Try.prog.godebug = none := by kernel_rfl
theorem laidOut : laidOutB Try.prog = true := by kernel_rfl

theorem open_one {H : Type} {enc : TypeId × Value → H} {W : World} {m : Nat} {c : Value} {x : DataW H × List MemPlace} (hf : DataW.trod enc Try.prog W 0 (fun _ => true) true m 23 [c] = some x) : ∃ a len cap zs, c = .slice a len cap ∧ IsRow .u64 W a len cap zs := by
  rcases open_ints Try.underlying23 Try.underlying30 (by kernel_rfl) hf with ⟨hcs, _⟩ | ⟨x, l, c, zs, hcs, _, hl, hm, hz, _, hcell, hwz⟩
  · simp at hcs
    exact ⟨none, 0, 0, [], hcs, .inl ⟨rfl, rfl, rfl, rfl⟩⟩
  · simp at hcs
    exact ⟨_, _, _, zs, hcs, .inr ⟨_, rfl, hl, hm, by simpa using hz, hcell, hwz⟩⟩

set_option maxRecDepth 100000 in
theorem open_arr2 {H : Type} {enc : TypeId × Value → H} {W : World} {base : Nat} {v : Value} {d : DataW H} {ps : List MemPlace} (hv : Value.okWide Try.prog W .any base 24 v) (h : DataW.Trod enc Try.prog W 0 (fun _ => true) true 24 v d ps) :
    ∃ a0 len0 cap0 z0 a1 len1 cap1 z1, v = .agg #[.slice a0 len0 cap0, .slice a1 len1 cap1] ∧ IsRow .u64 W a0 len0 cap0 z0 ∧ IsRow .u64 W a1 len1 cap1 z1 := by
  have hu : Try.prog.underlying 24 = some (.array 2 23) := Try.underlying24
  have hce : Try.prog.cellsOf 23 = 1 := by kernel_rfl
  have hca : Try.prog.cellsOf 24 = 2 := by kernel_rfl
  simp only [Value.okWide, hu] at hv
  obtain ⟨cs, rfl, hsz, _⟩ := hv
  rw [hca] at hsz
  obtain ⟨c0, c1, rfl⟩ : ∃ c0 c1, cs = #[c0, c1] := by
    obtain ⟨l⟩ := cs
    match l, hsz with
    | [c0, c1], _ => exact ⟨c0, c1, rfl⟩
  obtain ⟨fuel, hf⟩ := h
  obtain ⟨xs, m, _, _, _, hl, hx⟩ := DataW.trod_array hu hf
  have q0 := hx 0 (by decide)
  rw [hce] at q0
  obtain ⟨x0, e0⟩ : ∃ x0, xs[0]? = some x0 := ⟨_, List.getElem?_eq_getElem (by omega)⟩
  rw [e0] at q0
  obtain ⟨a0, len0, cap0, z0, rfl, w0⟩ := open_one (c := c0) (by simpa [Value.cells] using q0)
  have q1 := hx 1 (by decide)
  rw [hce] at q1
  obtain ⟨x1, e1⟩ : ∃ x1, xs[1]? = some x1 := ⟨_, List.getElem?_eq_getElem (by omega)⟩
  rw [e1] at q1
  obtain ⟨a1, len1, cap1, z1, rfl, w1⟩ := open_one (c := c1) (by simpa [Value.cells] using q1)
  exact ⟨a0, len0, cap0, z0, a1, len1, cap1, z1, rfl, w0, w1⟩

theorem crt_one {ls : List Int} {e : Int} (h : ResCrt [1] [2] [1] [3] ls e) : ls.length = 1 := by
  unfold ResCrt at h
  rw [show (isRestB [1] [2] && isRestB [1] [3]) = true by decide, if_pos rfl] at h
  obtain ⟨ks, f, hi, h0, h1⟩ := h
  have hf : f = 0 := by
    unfold ResInv at hi
    rw [show (rightB [2] && (rightB [3] && decide (2 ≤ val 18446744073709551616 [3]))) = true by decide, if_pos rfl, show val 18446744073709551616 [3] = 3 by decide, show val 18446744073709551616 [2] = 2 by decide, if_pos (by decide)] at hi
    exact hi.1
  obtain ⟨_, d, r, v⟩ := h0 hf
  have e1 : val 18446744073709551616 ls = 1 := by
    rw [v, show val 18446744073709551616 [1] = 1 by decide]; simp
  have : ls = [1] := val_inj (by decide) d (by intro x hx; simp at hx; omega) (right_top r) (.inr (by decide)) (by rw [e1]; decide)
  rw [this]; rfl

set_option maxHeartbeats 1600000 in
theorem walk (a0 : Option Addr) (len0 cap0 : Nat) (z0 : List Int) (a1 : Option Addr) (len1 cap1 : Nat) (z1 : List Int) (a2 : Option Addr) (len2 cap2 : Nat) (z2 : List Int) (a3 : Option Addr) (len3 cap3 : Nat) (z3 : List Int) (w : World) (w0 : IsRow .u64 w a0 len0 cap0 z0) (w1 : IsRow .u64 w a1 len1 cap1 z1) (w2 : IsRow .u64 w a2 len2 cap2 z2) (w3 : IsRow .u64 w a3 len3 cap3 z3) :
    Calls Try.prog 3 #[.agg #[.slice a0 len0 cap0, .slice a1 len1 cap1], .agg #[.slice a2 len2 cap2, .slice a3 len3 cap3]] w fun e w' => e = .returned (.bool true) ∧ Below w.heap.size w w' := by
  have B0 := ((Below.refl w.heap.size w).alloc (Nat.le_refl _) (.cells #[.slice a0 len0 cap0, .slice a1 len1 cap1] 24)).alloc (by simp) (.cells #[.slice a2 len2 cap2, .slice a3 len3 cap3] 24)
  have H0 := (Nums.of_row w0).below B0
  have H1 := (Nums.of_row w1).below B0
  have H2 := (Nums.of_row w2).below B0
  have H3 := (Nums.of_row w3).below B0
  generalize z0.take len0 = zs at H0
  generalize z1.take len1 = ys at H1
  generalize z2.take len2 = ms at H2
  generalize z3.take len3 = ns at H3
  clear w0 w1 w2 w3
  have F := mfew_four a0 a2 a1 a3 len0 cap0 len2 cap2 len1 cap1 len3 cap3 _ _ _ _ _ H0 H2 H1 H3
  have hz : ((w.alloc (.cells #[.slice a0 len0 cap0, .slice a1 len1 cap1] 24)).alloc (.cells #[.slice a2 len2 cap2, .slice a3 len3 cap3] 24)).heap.size = w.heap.size + 1 + 1 := by simp
  rw [hz] at F
  cases hf : manyB 70 [len0, len2, len1, len3] with
  | false =>
    rw [hf] at F
    go_enter Try.func3, Try.ntmps3
    go_wp2_with fail
    refine F.mono ?_
    rintro e w' ⟨rfl, -, -, -, -, hb⟩
    have hB := B0.trans (hb.mono (by first | omega | (rw [hz]; omega)))
    go_wp2_with fail
    go_ret
    exact ⟨rfl, hB⟩
  | true =>
    rw [hf] at F
    clear H0 H1 H2 H3 hf
    go_enter Try.func3, Try.ntmps3
    go_wp2_with fail
    refine F.mono ?_
    rintro e v0 ⟨rfl, G0, G2, G1, G3, hb⟩
    have hB0 := B0.trans (hb.mono (by first | omega | (rw [hz]; omega)))
    clear F B0 hb hz
    go_wp2_with fail
    refine (crt_any _ _ _ _ _ _ _ _ _ _ _ _ _ _ _ _ _ G0 G2 G1 G3).mono ?_
    rintro e v1 ⟨xa, xn, xc, xs, xe, rfl, hX, hXr, hb⟩
    have HX : Hid (ResCrt zs ms ys ns xs xe) := hXr
    replace G0 := G0.below hb
    replace G1 := G1.below hb
    replace G2 := G2.below hb
    replace G3 := G3.below hb
    have hB1 := hB0.trans (hb.mono hB0.size)
    clear hB0 hb hXr
    go_wp2_with fail
    refine (refCrt_of (fun _ _ _ _ _ _ _ _ _ h h' => refInverse_of _ _ _ _ _ _ _ _ _ h h') _ _ _ _ _ _ _ _ _ _ _ _ _ _ _ _ _ G0 G2 G1 G3).mono ?_
    rintro e v2 ⟨ya, yn, yc, us, ye, rfl, hY, hYr, hb⟩
    obtain ⟨e1, e2⟩ := HX.out.unique hYr
    subst e1
    subst e2
    replace hX := hX.below hb
    have hB2 := hB1.trans (hb.mono hB1.size)
    clear hB1 hb hYr HX G0 G1 G2 G3
    go_wp2_with fail
    refine (same_any _ _ _ _ _ _ _ _ _ hX hY).mono ?_
    rintro e v3 ⟨rfl, hb⟩
    rw [sameB_self]
    have hB3 := hB2.trans (hb.mono hB2.size)
    clear hB2 hb hX hY
    have L1 := Nums.lit1 v3 1 (by omega) 30
    have L2 := Nums.lit1 (v3.alloc (.cells #[.int .u64 1] 30)) 2 (by omega) 30
    have L3 := Nums.lit1 ((v3.alloc (.cells #[.int .u64 1] 30)).alloc (.cells #[.int .u64 2] 30)) 1 (by omega) 30
    have L4 := Nums.lit1 (((v3.alloc (.cells #[.int .u64 1] 30)).alloc (.cells #[.int .u64 2] 30)).alloc (.cells #[.int .u64 1] 30)) 3 (by omega) 30
    replace L1 := ((L1.growD (.cells #[.int .u64 2] 30)).growD (.cells #[.int .u64 1] 30)).growD (.cells #[.int .u64 3] 30)
    replace L2 := (L2.growD (.cells #[.int .u64 1] 30)).growD (.cells #[.int .u64 3] 30)
    replace L3 := L3.growD (.cells #[.int .u64 3] 30)
    simp only [World.size_alloc] at L2 L3 L4
    have hV := bgrowD (bgrowD (bgrowD (bgrowD (Below.refl v3.heap.size v3) (.cells #[.int .u64 1] 30)) (.cells #[.int .u64 2] 30)) (.cells #[.int .u64 1] 30)) (.cells #[.int .u64 3] 30)
    have hB4 := hB3.trans (hV.mono hB3.size)
    clear hB3 hV
    go_wp2_with fail
    refine (crt_any _ _ _ _ _ _ _ _ _ _ _ _ [1] [2] [1] [3] _ L1 L2 L3 L4).mono ?_
    rintro e v4 ⟨oa, on, oc, os, oe, rfl, hO, hOr, hb⟩
    have ho : on = 1 := by have := crt_one hOr; have := hO.hlen; omega
    subst ho
    have hB5 := hB4.trans (hb.mono hB4.size)
    clear hB4 hb hOr L1 L2 L3 L4 hO
    go_wp2_with fail
    go_ret
    exact ⟨by simp, hB5⟩

set_option maxRecDepth 100000 in
theorem lifted (os : Os) (started : os.Started) (H : Type) (enc : TypeId × Value → H) :
    ReturnsInHanded {} Try.checked os 3 .any (Rows.modintCrtsSpec.pre6 enc Try.prog Try.f3 Rows.modintCrtsRow.domain false) (Rows.modintCrtsSpec.post enc Try.prog Try.f3 false true false false) := by
  refine returnsInHanded_of_change (C := Try.checked) own started (by kernel_rfl) Try.func3
    (ChangeSpec.witness6 (enc := enc) (C := Try.checked) false ⟨#[], #[.agg #[.slice none 0 0, .slice none 0 0], .agg #[.slice none 0 0, .slice none 0 0]], []⟩ 8 (by kernel_rfl) (by kernel_rfl) (by kernel_rfl) (by kernel_rfl)) ?_
  intro W base args ds gs before hval0 hW hcnd _
  have hval : ∀ (j : Nat) t v, Try.f3.params[j]? = some t → args[j]? = some v → Value.okWide Try.prog W .any base t v := hval0
  have hW' := hW
  obtain ⟨p, q, hA0, hV, rfl, hfz, hnd⟩ := hW
  have hA : DataW.TrodAll enc Try.prog W 0 (fun _ => true) true Try.f3.params.toList args.toList ds p := hA0
  rw [Try.params3] at hA hval
  obtain ⟨v0, vs0, d0, ds0, p0, q0, hargs, rfl, rfl, h0, r0⟩ := trodAll_cons hA
  obtain ⟨v1, vs1, d1, ds1, p1, q1, rfl, rfl, rfl, h1, r1⟩ := trodAll_cons r0
  obtain ⟨rfl, rfl, rfl⟩ := trodAll_nil r1
  obtain rfl : args = #[v0, v1] := by cases args; simp_all
  obtain ⟨rfl, rfl⟩ := trodVars_none hV
  have k0 := h0
  have lt0 : ∀ x ∈ p0, x.block < W.heap.size := by obtain ⟨m, hm⟩ := k0; exact DataW.trod_lt m _ _ _ hm
  obtain ⟨a0, len0, cap0, z0, a1, len1, cap1, z1, hv0, w0, w1⟩ := open_arr2 (hval 0 24 v0 rfl rfl) h0
  subst hv0
  have k1 := h1
  have lt1 : ∀ x ∈ p1, x.block < W.heap.size := by obtain ⟨m, hm⟩ := k1; exact DataW.trod_lt m _ _ _ hm
  obtain ⟨a2, len2, cap2, z2, a3, len3, cap3, z3, hv1, w2, w3⟩ := open_arr2 (hval 1 24 v1 rfl rfl) h1
  subst hv1
  clear hA0 hval0
  refine (walk a0 len0 cap0 z0 a1 len1 cap1 z1 a2 len2 cap2 z2 a3 len3 cap3 z3 W w0 w1 w2 w3).mono fun e W' ⟨he, bel⟩ => ?_
  subst he
  exact ⟨_, rfl, _, _, _, [], _, [], hW', trodAll_mk1 (shut_bool Try.underlying4 _), (trodAll_cons_mk (Below.trod laidOut (by kernel_rfl) (of_decide_eq_true (by kernel_rfl)) k0 bel lt0) (trodAll_cons_mk (Below.trod laidOut (by kernel_rfl) (of_decide_eq_true (by kernel_rfl)) k1 bel lt1) trodAll_mk0)), rfl, bel.frame _, fun h => by cases h⟩

theorem over : Rows.modintCrtsRow.holds Try.pinned (OpenSpec.ofChange Rows.modintCrtsSpec) :=
  OpenClaim.holds_of_wide 3 Try.f3 rfl rfl rfl rfl rfl rfl rfl ⟨rfl, rfl, rfl, rfl, rfl⟩ rfl rfl rfl rfl rfl (by kernel_rfl) Try.func3 (by kernel_rfl)
    (of_decide_eq_true (by kernel_rfl)) (by unfold Func.isWrapper; first | (rw [if_pos (by decide +kernel)]; kernel_rfl) | (rw [if_neg (by decide +kernel)]; exact ⟨rfl, rfl⟩))
    (fun os started H enc _ => lifted os started H enc)

theorem proved : Rows.ModintCrtsSaid := over
end Go.Proofs.Ytfafbggijhghcab.modintCrts
namespace Go.Proofs.Ytfafbggijhghcab
theorem modintCrts_holds : Rows.ModintCrtsSaid := modintCrts.proved
#print axioms modintCrts_holds
end Go.Proofs.Ytfafbggijhghcab

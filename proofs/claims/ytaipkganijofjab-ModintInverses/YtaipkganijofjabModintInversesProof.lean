/-
  The statement ModintInverses holds of the code at the commit that is named beside it, for every input.
-/
import Derived.Test.YtaipkganijofjabRows
import Derived.Test.YtaipkganijofjabRefInv
import Derived.Test.YtaipkganijofjabFew3
import Derived.Test.YtaipkganijofjabTwo
import Derived.WalkKit
import Derived.ProofKit
import Derived.OpenShut
import Derived.ShutString
import Derived.ChangeOld
import Derived.Below
import Derived.Deep.Cut
import Derived.Deep.DeepCutAuto
import Derived.Deep.RegionWith
import Derived.BigRegion
namespace Go.Proofs.Ytaipkganijofjab.modintInverses
open Go.ChangeShapes Go.WideShapes Go.ChangeAt Go.RowKit
open Go.ChangeMaps (open_string shut_string)
set_option linter.unusedVariables false

theorem own : ownKnob Try.prog.godebug = none := by kernel_rfl
theorem laidOut : laidOutB Try.prog = true := by kernel_rfl

theorem open_one {H : Type} {enc : TypeId × Value → H} {W : World} {m : Nat} {c : Value} {x : DataW H × List MemPlace} (hf : DataW.trod enc Try.prog W 0 (fun _ => true) true m 23 [c] = some x) : ∃ a len cap zs, c = .slice a len cap ∧ IsRow .u64 W a len cap zs := by
  rcases open_ints Try.underlying23 Try.underlying29 (by kernel_rfl) hf with ⟨hcs, _⟩ | ⟨x, l, c, zs, hcs, _, hl, hm, hz, _, hcell, hwz⟩
  · simp at hcs
    exact ⟨none, 0, 0, [], hcs, .inl ⟨rfl, rfl, rfl, rfl⟩⟩
  · simp at hcs
    exact ⟨_, _, _, zs, hcs, .inr ⟨_, rfl, hl, hm, by simpa using hz, hcell, hwz⟩⟩

theorem inv_one {ls : List Int} {e : Int} (h : ResInv [1] [2] ls e) : ls.length = 1 := by
  have h2 : ResInv [1] [2] [1] 0 := by
    unfold ResInv
    rw [show (rightB [1] && (rightB [2] && decide (2 ≤ val 18446744073709551616 [2]))) = true by decide, if_pos rfl, show val 18446744073709551616 [2] = 2 by decide, show val 18446744073709551616 [1] = 1 by decide, if_pos (by decide)]
    exact ⟨rfl, by intro x hx; simp at hx; omega, by decide, by decide, by decide⟩
  rw [(h.unique h2).1]; rfl

set_option maxHeartbeats 1600000 in
theorem walk (a0 : Option Addr) (len0 cap0 : Nat) (z0 : List Int) (a1 : Option Addr) (len1 cap1 : Nat) (z1 : List Int) (w : World) (w0 : IsRow .u64 w a0 len0 cap0 z0) (w1 : IsRow .u64 w a1 len1 cap1 z1) :
    Calls Try.prog 4 #[.slice a0 len0 cap0, .slice a1 len1 cap1] w fun e w' => e = .returned (.bool true) ∧ Below w.heap.size w w' := by
  have H0 := Nums.of_row w0
  have H1 := Nums.of_row w1
  have F := short_two a0 a1 len0 cap0 len1 cap1 _ _ w H0 H1
  generalize z0.take len0 = zs at H0 F
  generalize z1.take len1 = ys at H1 F
  cases hf : manyB 20 [len0, len1] with
  | false =>
    rw [hf] at F
    go_enter Try.func4, Try.ntmps4
    go_wp2_with fail
    refine F.mono ?_
    rintro e w' ⟨rfl, -, -, hb⟩
    go_wp2_with fail
    go_ret
    exact ⟨rfl, hb⟩
  | true =>
    rw [hf] at F
    clear w0 w1 H0 H1 hf
    go_enter Try.func4, Try.ntmps4
    go_wp2_with fail
    refine F.mono ?_
    rintro e v0 ⟨rfl, G0, G1, hB0⟩
    clear F
    go_wp2_with fail
    refine (inverse_of _ _ _ _ _ _ _ _ _ G0 G1).mono ?_
    rintro e v1 ⟨xa, xn, xc, xs, xe, rfl, hx, hxr, hb⟩
    have HX : Hid (ResInv zs ys xs xe) := hxr
    have G2 := G0.below hb
    have G3 := G1.below hb
    have hB1 := hB0.trans (hb.mono hB0.size)
    clear hxr hb G0 G1 hB0
    go_wp2_with fail
    refine (refInverse_of _ _ _ _ _ _ _ _ _ G2 G3).mono ?_
    rintro e v2 ⟨ya, yn, yc, ks, ye, rfl, hy, hyr, hb⟩
    obtain ⟨e1, e2⟩ := HX.out.unique hyr
    subst e1
    subst e2
    have hx2 := hx.below hb
    have hB2 := hB1.trans (hb.mono hB1.size)
    clear hyr HX hb G2 G3 hB1 hx
    go_wp2_with fail
    refine (same_any _ _ _ _ _ _ _ _ _ hx2 hy).mono ?_
    rintro e v3 ⟨rfl, hb⟩
    rw [sameB_self]
    have hB3 := hB2.trans (hb.mono hB2.size)
    clear hb hB2 hx2 hy
    have L1 := Nums.lit1 v3 1 (by omega) 29
    have L2 := Nums.lit1 (v3.alloc (.cells #[.int .u64 1] 29)) 2 (by omega) 29
    replace L1 := L1.growD (.cells #[.int .u64 2] 29)
    simp only [World.size_alloc] at L2
    have hV := bgrowD (bgrowD (Below.refl v3.heap.size v3) (.cells #[.int .u64 1] 29)) (.cells #[.int .u64 2] 29)
    have hB4 := hB3.trans (hV.mono hB3.size)
    clear hV hB3
    go_wp2_with fail
    refine (inverse_of _ _ _ _ _ _ [1] [2] _ L1 L2).mono ?_
    rintro e v4 ⟨oa, on, oc, os, oe, rfl, ho, hor, hb⟩
    have h1 : on = 1 := by
      have := inv_one hor
      have := ho.hlen
      omega
    subst h1
    have hB5 := hB4.trans (hb.mono hB4.size)
    clear hor ho hb hB4 L1 L2
    go_wp2_with fail
    go_ret
    exact ⟨by simp, hB5⟩

set_option maxRecDepth 100000 in
theorem lifted (os : Os) (started : os.Started) (H : Type) (enc : TypeId × Value → H) :
    ReturnsInHanded {} Try.checked os 4 .any (Rows.modintInversesSpec.pre6 enc Try.prog Try.f4 Rows.modintInversesRow.domain false) (Rows.modintInversesSpec.post enc Try.prog Try.f4 false true false false) := by
  refine returnsInHanded_of_change (C := Try.checked) own started (by kernel_rfl) Try.func4
    (ChangeSpec.witness6 (enc := enc) (C := Try.checked) false ⟨#[], #[.slice none 0 0, .slice none 0 0], []⟩ 8 (by kernel_rfl) (by kernel_rfl) (by kernel_rfl) (by kernel_rfl)) ?_
  intro W base args ds gs before hval0 hW hcnd _
  have hval : ∀ (j : Nat) t v, Try.f4.params[j]? = some t → args[j]? = some v → Value.okWide Try.prog W .any base t v := hval0
  have hW' := hW
  obtain ⟨p, q, hA0, hV, rfl, hfz, hnd⟩ := hW
  have hA : DataW.TrodAll enc Try.prog W 0 (fun _ => true) true Try.f4.params.toList args.toList ds p := hA0
  rw [Try.params4] at hA hval
  obtain ⟨v0, vs0, d0, ds0, p0, q0, hargs, rfl, rfl, h0, r0⟩ := trodAll_cons hA
  obtain ⟨v1, vs1, d1, ds1, p1, q1, rfl, rfl, rfl, h1, r1⟩ := trodAll_cons r0
  obtain ⟨rfl, rfl, rfl⟩ := trodAll_nil r1
  obtain rfl : args = #[v0, v1] := by cases args; simp_all
  obtain ⟨rfl, rfl⟩ := trodVars_none hV
  obtain ⟨a0, len0, cap0, rfl⟩ := okWide_slice Try.underlying23 (hval 0 23 v0 rfl rfl)
  have k0 := h0
  have lt0 : ∀ x ∈ p0, x.block < W.heap.size := by obtain ⟨m, hm⟩ := k0; exact DataW.trod_lt m _ _ _ hm
  obtain ⟨z0, w0⟩ : ∃ zs, IsRow .u64 W a0 len0 cap0 zs := by
    obtain ⟨fuel, hf⟩ := h0
    obtain ⟨a, l, c, zs, e, hz⟩ := open_one hf
    simp at e
    obtain ⟨rfl, rfl, rfl⟩ := e
    exact ⟨zs, hz⟩
  obtain ⟨a1, len1, cap1, rfl⟩ := okWide_slice Try.underlying23 (hval 1 23 v1 rfl rfl)
  have k1 := h1
  have lt1 : ∀ x ∈ p1, x.block < W.heap.size := by obtain ⟨m, hm⟩ := k1; exact DataW.trod_lt m _ _ _ hm
  obtain ⟨z1, w1⟩ : ∃ zs, IsRow .u64 W a1 len1 cap1 zs := by
    obtain ⟨fuel, hf⟩ := h1
    obtain ⟨a, l, c, zs, e, hz⟩ := open_one hf
    simp at e
    obtain ⟨rfl, rfl, rfl⟩ := e
    exact ⟨zs, hz⟩
  clear hA0 hval0
  refine (walk a0 len0 cap0 z0 a1 len1 cap1 z1 W w0 w1).mono fun e W' ⟨he, bel⟩ => ?_
  subst he
  exact ⟨_, rfl, _, _, _, [], _, [], hW', trodAll_mk1 (shut_bool Try.underlying4 _), (trodAll_cons_mk (Below.trod laidOut (by kernel_rfl) (of_decide_eq_true (by kernel_rfl)) k0 bel lt0) (trodAll_cons_mk (Below.trod laidOut (by kernel_rfl) (of_decide_eq_true (by kernel_rfl)) k1 bel lt1) trodAll_mk0)), rfl, bel.frame _, fun h => by cases h⟩

theorem over : Rows.modintInversesRow.holds Try.pinned (OpenSpec.ofChange Rows.modintInversesSpec) :=
  OpenClaim.holds_of_wide 4 Try.f4 rfl rfl rfl rfl rfl rfl rfl ⟨rfl, rfl, rfl, rfl, rfl⟩ rfl rfl rfl rfl rfl (by kernel_rfl) Try.func4 (by kernel_rfl)
    (of_decide_eq_true (by kernel_rfl)) (by unfold Func.isWrapper; first | (rw [if_pos (by decide +kernel)]; kernel_rfl) | (rw [if_neg (by decide +kernel)]; exact ⟨rfl, rfl⟩))
    (fun os started H enc _ => lifted os started H enc)

theorem proved : Rows.ModintInversesSaid := over
end Go.Proofs.Ytaipkganijofjab.modintInverses
namespace Go.Proofs.Ytaipkganijofjab
theorem modintInverses_holds : Rows.ModintInversesSaid := modintInverses.proved
#print axioms modintInverses_holds
end Go.Proofs.Ytaipkganijofjab

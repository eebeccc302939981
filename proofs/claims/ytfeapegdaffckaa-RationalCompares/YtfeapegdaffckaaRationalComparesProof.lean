/-
  The statement RationalCompares holds of the code at the commit that is named beside it, for every input.
-/
import Derived.Test.YtfeapegdaffckaaRows
import Derived.Test.YtfeapegdaffckaaP8LawsC
import Derived.Test.YtfeapegdaffckaaX8B
import Derived.Test.YtfeapegdaffckaaX8E
import Derived.Test.YtfeapegdaffckaaX8F
import Derived.Lib.SmallJoins
import Derived.WalkKit
import Derived.ProofKit
import Derived.OpenShut
import Derived.ShutString
import Derived.ChangeOld
import Derived.Below
import Derived.Deep.Cut
import Derived.Deep.DeepCutAuto
import Derived.Deep.RegionWith
import Derived.BigRegion
namespace Go.Proofs.Ytfeapegdaffckaa.rationalCompares
open Go.ChangeShapes Go.WideShapes Go.ChangeAt Go.RowKit
open Go.ChangeMaps (open_string shut_string)
set_option linter.unusedVariables false

theorem own : ownKnob Try.prog.godebug = none := by kernel_rfl
theorem laidOut : laidOutB Try.prog = true := by kernel_rfl

theorem open_one {H : Type} {enc : TypeId × Value → H} {W : World} {m : Nat} {c : Value} {x : DataW H × List MemPlace} (hf : DataW.trod enc Try.prog W 0 (fun _ => true) true m 23 [c] = some x) : ∃ a len cap zs, c = .slice a len cap ∧ IsRow .u64 W a len cap zs := by
  rcases open_ints Try.underlying23 Try.underlying42 (by kernel_rfl) hf with ⟨hcs, _⟩ | ⟨x, l, c, zs, hcs, _, hl, hm, hz, _, hcell, hwz⟩
  · simp at hcs
    exact ⟨none, 0, 0, [], hcs, .inl ⟨rfl, rfl, rfl, rfl⟩⟩
  · simp at hcs
    exact ⟨_, _, _, zs, hcs, .inr ⟨_, rfl, hl, hm, by simpa using hz, hcell, hwz⟩⟩

set_option maxRecDepth 100000 in
theorem open_frac {H : Type} {enc : TypeId × Value → H} {W : World} {base : Nat} {v : Value} {d : DataW H} {ps : List MemPlace} (hv : Value.okWide Try.prog W .any base 27 v) (h : DataW.Trod enc Try.prog W 0 (fun _ => true) true 27 v d ps) :
    ∃ n a len cap zs b len' cap' zs', v = .agg #[.bool n, .slice a len cap, .slice b len' cap'] ∧ IsRow .u64 W a len cap zs ∧ IsRow .u64 W b len' cap' zs' := by
  obtain ⟨cs, rfl, hsz⟩ := okWide_struct Try.underlying27 hv
  have hca : Try.prog.cellsOf 27 = 3 := by kernel_rfl
  have hci : Try.prog.cellsOf 25 = 2 := by kernel_rfl
  have hcn : Try.prog.cellsOf 23 = 1 := by kernel_rfl
  have hcb : Try.prog.cellsOf 4 = 1 := by kernel_rfl
  obtain ⟨c0, c1, c2, rfl⟩ := Go.Joins.array3 (hsz.trans hca)
  obtain ⟨fuel, hf⟩ := h
  obtain ⟨y0, y1, m, _, _, h0, h1⟩ := trod_struct2 Try.underlying27 hf
  have t0 : DataW.trod enc Try.prog W 0 (fun _ => true) true m 25 [c0, c1] = some y0 := by simpa [Value.cells, hci] using h0
  have t1 : DataW.trod enc Try.prog W 0 (fun _ => true) true m 23 [c2] = some y1 := by simpa [Value.cells, hcn] using h1
  obtain ⟨y2, y3, k, _, _, g0, g1⟩ := trod_struct2 Try.underlying25 t0
  have u0 : DataW.trod enc Try.prog W 0 (fun _ => true) true k 4 [c0] = some y2 := by simpa [hcb] using g0
  have u1 : DataW.trod enc Try.prog W 0 (fun _ => true) true k 23 [c1] = some y3 := by simpa [hcn] using g1
  obtain ⟨n, e, _⟩ := DataW.trod_bool Try.underlying4 u0
  simp at e
  subst e
  obtain ⟨a, len, cap, zs, rfl, hz⟩ := open_one u1
  obtain ⟨b, len', cap', zs', rfl, hz'⟩ := open_one t1
  exact ⟨n, a, len, cap, zs, b, len', cap', zs', rfl, hz, hz'⟩

set_option maxHeartbeats 1600000 in
theorem walk (n0 : Bool) (a0 : Option Addr) (len0 cap0 : Nat) (z0 : List Int) (a1 : Option Addr) (len1 cap1 : Nat) (z1 : List Int) (n2 : Bool) (a2 : Option Addr) (len2 cap2 : Nat) (z2 : List Int) (a3 : Option Addr) (len3 cap3 : Nat) (z3 : List Int) (w : World) (w0 : IsRow .u64 w a0 len0 cap0 z0) (w1 : IsRow .u64 w a1 len1 cap1 z1) (w2 : IsRow .u64 w a2 len2 cap2 z2) (w3 : IsRow .u64 w a3 len3 cap3 z3) :
    Calls Try.prog 4 #[.agg #[.bool n0, .slice a0 len0 cap0, .slice a1 len1 cap1], .agg #[.bool n2, .slice a2 len2 cap2, .slice a3 len3 cap3]] w fun e w' => e = .returned (.bool true) ∧ Below w.heap.size w w' := by
  exact compares_walk mak_ok8 flr_ok8 cmp_ok8 n0 n2 a0 a1 a2 a3 len0 cap0 len1 cap1 len2 cap2 len3 cap3 _ _ _ _ w (Nums.of_row w0) (Nums.of_row w1) (Nums.of_row w2) (Nums.of_row w3)

set_option maxRecDepth 100000 in
theorem lifted (os : Os) (started : os.Started) (H : Type) (enc : TypeId × Value → H) :
    ReturnsInHanded {} Try.checked os 4 .any (Rows.rationalComparesSpec.pre6 enc Try.prog Try.f4 Rows.rationalComparesRow.domain false) (Rows.rationalComparesSpec.post enc Try.prog Try.f4 false true false false) := by
  refine returnsInHanded_of_change (C := Try.checked) own started (by kernel_rfl) Try.func4
    (ChangeSpec.witness6 (enc := enc) (C := Try.checked) false ⟨#[], #[.agg #[.bool false, .slice none 0 0, .slice none 0 0], .agg #[.bool false, .slice none 0 0, .slice none 0 0]], []⟩ 8 (by kernel_rfl) (by kernel_rfl) (by kernel_rfl) (by kernel_rfl)) ?_
  intro W base args ds gs before hval0 hW hcnd _
  have hval : ∀ (j : Nat) t v, Try.f4.params[j]? = some t → args[j]? = some v → Value.okWide Try.prog W .any base t v := hval0
  have hW' := hW
  obtain ⟨p, q, hA0, hV, rfl, hfz, hnd⟩ := hW
  have hA : DataW.TrodAll enc Try.prog W 0 (fun _ => true) true Try.f4.params.toList args.toList ds p := hA0
  rw [Try.params4] at hA hval
  obtain ⟨v0, vs0, d0, ds0, p0, q0, hargs, rfl, rfl, h0, r0⟩ := trodAll_cons hA
  obtain ⟨v1, vs1, d1, ds1, p1, q1, rfl, rfl, rfl, h1, r1⟩ := trodAll_cons r0
  obtain ⟨rfl, rfl, rfl⟩ := trodAll_nil r1
  obtain rfl : args = #[v0, v1] := by cases args; simp_all
  obtain ⟨rfl, rfl⟩ := trodVars_none hV
  have k0 := h0
  have lt0 : ∀ x ∈ p0, x.block < W.heap.size := by obtain ⟨m, hm⟩ := k0; exact DataW.trod_lt m _ _ _ hm
  obtain ⟨n0, a0, len0, cap0, z0, a1, len1, cap1, z1, hv0, w0, w1⟩ := open_frac (hval 0 27 v0 rfl rfl) h0
  subst hv0
  have k1 := h1
  have lt1 : ∀ x ∈ p1, x.block < W.heap.size := by obtain ⟨m, hm⟩ := k1; exact DataW.trod_lt m _ _ _ hm
  obtain ⟨n2, a2, len2, cap2, z2, a3, len3, cap3, z3, hv1, w2, w3⟩ := open_frac (hval 1 27 v1 rfl rfl) h1
  subst hv1
  clear hA0 hval0
  refine (walk n0 a0 len0 cap0 z0 a1 len1 cap1 z1 n2 a2 len2 cap2 z2 a3 len3 cap3 z3 W w0 w1 w2 w3).mono fun e W' ⟨he, bel⟩ => ?_
  subst he
  exact ⟨_, rfl, _, _, _, [], _, [], hW', trodAll_mk1 (shut_bool Try.underlying4 _), (trodAll_cons_mk (Below.trod laidOut (by kernel_rfl) (of_decide_eq_true (by kernel_rfl)) k0 bel lt0) (trodAll_cons_mk (Below.trod laidOut (by kernel_rfl) (of_decide_eq_true (by kernel_rfl)) k1 bel lt1) trodAll_mk0)), rfl, bel.frame _, fun h => by cases h⟩

theorem over : Rows.rationalComparesRow.holds Try.pinned (OpenSpec.ofChange Rows.rationalComparesSpec) :=
  OpenClaim.holds_of_wide 4 Try.f4 rfl rfl rfl rfl rfl rfl rfl ⟨rfl, rfl, rfl, rfl, rfl⟩ rfl rfl rfl rfl rfl (by kernel_rfl) Try.func4 (by kernel_rfl)
    (of_decide_eq_true (by kernel_rfl)) (by unfold Func.isWrapper; first | (rw [if_pos (by decide +kernel)]; kernel_rfl) | (rw [if_neg (by decide +kernel)]; exact ⟨rfl, rfl⟩))
    (fun os started H enc _ => lifted os started H enc)

theorem proved : Rows.RationalComparesSaid := over
end Go.Proofs.Ytfeapegdaffckaa.rationalCompares
namespace Go.Proofs.Ytfeapegdaffckaa
theorem rationalCompares_holds : Rows.RationalComparesSaid := rationalCompares.proved
#print axioms rationalCompares_holds
end Go.Proofs.Ytfeapegdaffckaa

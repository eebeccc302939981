/-
  The statement NatTexts holds of the code at the commit that is named beside it, for every input.
-/
import Derived.Test.YtfafbggijhghcabRows
import Derived.Test.YtfafbggijhghcabRefText
import Derived.Test.YtfafbggijhghcabNatB
import Derived.WalkKit
import Derived.ProofKit
import Derived.OpenShut
import Derived.ShutString
import Derived.ChangeOld
import Derived.Below
import Derived.Deep.Cut
import Derived.Deep.DeepCutAuto
import Derived.Deep.RegionWith
import Derived.BigRegion
namespace Go.Proofs.Ytfafbggijhghcab.natTexts
open Go.ChangeShapes Go.WideShapes Go.ChangeAt Go.RowKit
open Go.ChangeMaps (open_string shut_string)
set_option linter.unusedVariables false

theorem own : ownKnob Try.prog.godebug = none := by kernel_rfl
theorem laidOut : laidOutB Try.prog = true := by kernel_rfl

theorem open_one {H : Type} {enc : TypeId × Value → H} {W : World} {m : Nat} {c : Value} {x : DataW H × List MemPlace} (hf : DataW.trod enc Try.prog W 0 (fun _ => true) true m 23 [c] = some x) : ∃ a len cap zs, c = .slice a len cap ∧ IsRow .u64 W a len cap zs := by
  rcases open_ints Try.underlying23 Try.underlying30 (by kernel_rfl) hf with ⟨hcs, _⟩ | ⟨x, l, c, zs, hcs, _, hl, hm, hz, _, hcell, hwz⟩
  · simp at hcs
    exact ⟨none, 0, 0, [], hcs, .inl ⟨rfl, rfl, rfl, rfl⟩⟩
  · simp at hcs
    exact ⟨_, _, _, zs, hcs, .inr ⟨_, rfl, hl, hm, by simpa using hz, hcell, hwz⟩⟩

theorem text1 {S : ByteArray} (h : ResText [1] S) : S = ⟨#[49]⟩ := by
  have h2 : ResText [1] ⟨#[49]⟩ := by
    unfold ResText
    rw [if_pos (by decide), if_neg (by decide)]
    exact ⟨[1], by intro x hx; simp at hx; omega, .inr (by decide), by decide, by decide⟩
  exact h.unique h2
set_option maxHeartbeats 1600000 in
theorem walk (a0 : Option Addr) (len0 cap0 : Nat) (z0 : List Int) (w : World) (w0 : IsRow .u64 w a0 len0 cap0 z0) :
    Calls Try.prog 6 #[.slice a0 len0 cap0] w fun e w' => e = .returned (.bool true) ∧ Below w.heap.size w w' := by
  have H0 := Nums.of_row w0
  have F := few_one a0 len0 cap0 _ w H0
  generalize z0.take len0 = zs at H0 F
  cases hf : fewB [len0] with
  | false =>
    rw [hf] at F
    go_enter Try.func6, Try.ntmps6
    go_wp2_with fail
    refine F.mono ?_
    rintro e w' ⟨rfl, -, hb⟩
    go_wp2_with fail
    go_ret
    exact ⟨rfl, hb⟩
  | true =>
    rw [hf] at F
    clear w0 H0 hf
    go_enter Try.func6, Try.ntmps6
    go_wp2_with fail
    refine F.mono ?_
    rintro e v0 ⟨rfl, A0, hB0⟩
    have L1 := Nums.lit1 v0 1 (by omega) 30
    have b0 := (Below.refl v0.heap.size v0).alloc (Nat.le_refl _) (.cells #[.int .u64 1] 30)
    have A1 := A0.below b0
    have hB1 := hB0.alloc hB0.size (.cells #[.int .u64 1] 30)
    clear F A0 b0 hB0
    go_wp2_with fail
    refine (text_any _ _ _ [1] _ L1).mono ?_
    rintro e v2 ⟨T, rfl, hT, -, hb2⟩
    obtain rfl := text1 hT
    have A2 := A1.below hb2
    have hB2 := hB1.trans (hb2.mono hB1.size)
    clear hT hb2 hB1 A1 L1
    go_wp2_with fail
    refine (text_any _ _ _ _ _ A2).mono ?_
    rintro e v3 ⟨S, rfl, hS, -, hb3⟩
    have HS : Hid (ResText zs S) := hS
    have A3 := A2.below hb3
    have hB3 := hB2.trans (hb3.mono hB2.size)
    clear hS hb3 hB2 A2
    go_wp2_with fail
    refine (refText_any _ _ _ _ _ A3).mono ?_
    rintro e v4 ⟨T, rfl, hT, hb4⟩
    obtain rfl := HS.out.unique hT
    have hB4 := hB3.trans (hb4.mono hB3.size)
    clear hT HS hb4 hB3 A3
    go_wp2
    go_ret
    exact ⟨by simp, hB4⟩

set_option maxRecDepth 100000 in
theorem lifted (os : Os) (started : os.Started) (H : Type) (enc : TypeId × Value → H) :
    ReturnsInHanded {} Try.checked os 6 .any (Rows.natTextsSpec.pre6 enc Try.prog Try.f6 Rows.natTextsRow.domain false) (Rows.natTextsSpec.post enc Try.prog Try.f6 false true false false) := by
  refine returnsInHanded_of_change (C := Try.checked) own started (by kernel_rfl) Try.func6
    (ChangeSpec.witness6 (enc := enc) (C := Try.checked) false ⟨#[], #[.slice none 0 0], []⟩ 8 (by kernel_rfl) (by kernel_rfl) (by kernel_rfl) (by kernel_rfl)) ?_
  intro W base args ds gs before hval0 hW hcnd _
  have hval : ∀ (j : Nat) t v, Try.f6.params[j]? = some t → args[j]? = some v → Value.okWide Try.prog W .any base t v := hval0
  have hW' := hW
  obtain ⟨p, q, hA0, hV, rfl, hfz, hnd⟩ := hW
  have hA : DataW.TrodAll enc Try.prog W 0 (fun _ => true) true Try.f6.params.toList args.toList ds p := hA0
  rw [Try.params6] at hA hval
  obtain ⟨v0, vs0, d0, ds0, p0, q0, hargs, rfl, rfl, h0, r0⟩ := trodAll_cons hA
  obtain ⟨rfl, rfl, rfl⟩ := trodAll_nil r0
  obtain rfl : args = #[v0] := by cases args; simp_all
  obtain ⟨rfl, rfl⟩ := trodVars_none hV
  obtain ⟨a0, len0, cap0, rfl⟩ := okWide_slice Try.underlying23 (hval 0 23 v0 rfl rfl)
  have k0 := h0
  have lt0 : ∀ x ∈ p0, x.block < W.heap.size := by obtain ⟨m, hm⟩ := k0; exact DataW.trod_lt m _ _ _ hm
  obtain ⟨z0, w0⟩ : ∃ zs, IsRow .u64 W a0 len0 cap0 zs := by
    obtain ⟨fuel, hf⟩ := h0
    obtain ⟨a, l, c, zs, e, hz⟩ := open_one hf
    simp at e
    obtain ⟨rfl, rfl, rfl⟩ := e
    exact ⟨zs, hz⟩
  clear hA0 hval0
  refine (walk a0 len0 cap0 z0 W w0).mono fun e W' ⟨he, bel⟩ => ?_
  subst he
  exact ⟨_, rfl, _, _, _, [], _, [], hW', trodAll_mk1 (shut_bool Try.underlying4 _), (trodAll_cons_mk (Below.trod laidOut (by kernel_rfl) (of_decide_eq_true (by kernel_rfl)) k0 bel lt0) trodAll_mk0), rfl, bel.frame _, fun h => by cases h⟩

theorem over : Rows.natTextsRow.holds Try.pinned (OpenSpec.ofChange Rows.natTextsSpec) :=
  OpenClaim.holds_of_wide 6 Try.f6 rfl rfl rfl rfl rfl rfl rfl ⟨rfl, rfl, rfl, rfl, rfl⟩ rfl rfl rfl rfl rfl (by kernel_rfl) Try.func6 (by kernel_rfl)
    (of_decide_eq_true (by kernel_rfl)) (by unfold Func.isWrapper; first | (rw [if_pos (by decide +kernel)]; kernel_rfl) | (rw [if_neg (by decide +kernel)]; exact ⟨rfl, rfl⟩))
    (fun os started H enc _ => lifted os started H enc)

theorem proved : Rows.NatTextsSaid := over
end Go.Proofs.Ytfafbggijhghcab.natTexts
namespace Go.Proofs.Ytfafbggijhghcab
theorem natTexts_holds : Rows.NatTextsSaid := natTexts.proved
#print axioms natTexts_holds
end Go.Proofs.Ytfafbggijhghcab

/-
  The statement DatasetMeets holds of the code at the commit that is named beside it, for every input.
-/
import Derived.Test.YtaiikhbfnfcalaaRows
import Derived.Test.YtaiikhbfnfcalaaP15Open
import Derived.Test.YtaiikhbfnfcalaaB15D
import Derived.Test.YtaiikhbfnfcalaaX15Z
import Derived.Lib.SmallJoins
import Derived.WalkKit
import Derived.ProofKit
import Derived.OpenShut
import Derived.ShutString
import Derived.ChangeOld
import Derived.Below
import Derived.Deep.Cut
import Derived.Deep.DeepCutAuto
import Derived.Deep.RegionWith
import Derived.BigRegion
import Derived.SizedLaws
namespace Go.Proofs.Ytaiikhbfnfcalaa.datasetMeets
open Go.ChangeShapes Go.WideShapes Go.ChangeAt Go.RowKit
open Go.ChangeMaps (open_string shut_string)
set_option linter.unusedVariables false

theorem own : ownKnob Try.prog.godebug = none := by kernel_rfl
theorem laidOut : laidOutB Try.prog = true := by kernel_rfl

set_option maxHeartbeats 1600000 in
theorem walk (a0 : Option Addr) (len0 cap0 : Nat) (ts0 : List Tab) (w : World) (w0 : TRows w a0 len0 cap0 ts0) (b0 : len0 ≤ 1954687338268) :
    Calls Try.prog 8 #[.slice a0 len0 cap0] w fun e w' => e = .returned (.bool true) ∧ Below w.heap.size w w' := by
  exact meets15_walk ali_ok15 tak_ok15 joi_ok15 a0 len0 cap0 ts0 w w0 b0

set_option maxRecDepth 100000 in
theorem lifted (os : Os) (started : os.Started) (H : Type) (enc : TypeId × Value → H) :
    ReturnsInHanded {} Try.checked os 8 .any (Rows.datasetMeetsSpec.pre6 enc Try.prog Try.f8 Rows.datasetMeetsRow.domain false) (Rows.datasetMeetsSpec.post enc Try.prog Try.f8 false true false false) := by
  refine returnsInHanded_of_change_sized (C := Try.checked) own started (by kernel_rfl) Try.func8
    (ChangeSpec.witness6 (enc := enc) (C := Try.checked) false ⟨#[], #[.slice none 0 0], []⟩ 8 (by kernel_rfl) (by kernel_rfl) (by kernel_rfl) (by kernel_rfl)) ?_
  intro W base args ds gs before hval0 hW hcnd hsz0 _
  have hval : ∀ (j : Nat) t v, Try.f8.params[j]? = some t → args[j]? = some v → Value.okWide Try.prog W .any base t v := hval0
  have hW' := hW
  obtain ⟨p, q, hA0, hV, rfl, hfz, hnd⟩ := hW
  have hA : DataW.TrodAll enc Try.prog W 0 (fun _ => true) true Try.f8.params.toList args.toList ds p := hA0
  have hsz : (DataW.weightsEach Try.prog (Try.f8.params.toList ++ Rows.datasetMeetsSpec.plain.varTypes Try.prog) (ds ++ gs)).all (· ≤ reachBytes) = true := hsz0
  rw [Try.params8] at hA hval hsz
  obtain ⟨v0, vs0, d0, ds0, p0, q0, hargs, rfl, rfl, h0, r0⟩ := trodAll_cons hA
  obtain ⟨rfl, rfl, rfl⟩ := trodAll_nil r0
  obtain rfl : args = #[v0] := by cases args; simp_all
  obtain ⟨rfl, rfl⟩ := trodVars_none hV
  obtain ⟨a0, len0, cap0, rfl⟩ := okWide_slice Try.underlying37 (hval 0 37 v0 rfl rfl)
  have k0 := h0
  have lt0 : ∀ x ∈ p0, x.block < W.heap.size := by obtain ⟨m, hm⟩ := k0; exact DataW.trod_lt m _ _ _ hm
  obtain ⟨ts0, w0, b0⟩ : ∃ ns, TRows W a0 len0 cap0 ns ∧ len0 ≤ 1954687338268 := by
    obtain ⟨fuel, hf⟩ := h0
    obtain ⟨a, l, c, ns, e, hz, hs⟩ := open_tabs15 hf
    simp at e
    obtain ⟨rfl, rfl, rfl⟩ := e
    refine ⟨ns, hz, ?_⟩
    rcases hs with hc | ⟨es, sp, hd, hc⟩
    · omega
    · have hb := sized_slice hsz (j := 0) (t := 37) (e := 25) (elems := es) (spare := sp) rfl (by rw [← hd]; rfl) Try.underlying37
      rw [show Try.prog.bytesOf 25 = 72 by kernel_rfl] at hb
      unfold reachBytes at hb
      omega
  clear hA0 hval0
  refine (walk a0 len0 cap0 ts0 W w0 b0).mono fun e W' ⟨he, bel⟩ => ?_
  subst he
  exact ⟨_, rfl, _, _, _, [], _, [], hW', trodAll_mk1 (shut_bool Try.underlying4 _), (trodAll_cons_mk (Below.trod laidOut (by kernel_rfl) (of_decide_eq_true (by kernel_rfl)) k0 bel lt0) trodAll_mk0), rfl, bel.frame _, fun h => by cases h⟩

theorem over : Rows.datasetMeetsRow.holds Try.pinned (OpenSpec.ofChange Rows.datasetMeetsSpec) :=
  OpenClaim.holds_of_wide 8 Try.f8 rfl rfl rfl rfl rfl rfl rfl ⟨rfl, rfl, rfl, rfl, rfl⟩ rfl rfl rfl rfl rfl (by kernel_rfl) Try.func8 (by kernel_rfl)
    (of_decide_eq_true (by kernel_rfl)) (by unfold Func.isWrapper; first | (rw [if_pos (by decide +kernel)]; kernel_rfl) | (rw [if_neg (by decide +kernel)]; exact ⟨rfl, rfl⟩))
    (fun os started H enc _ => lifted os started H enc)

theorem proved : Rows.DatasetMeetsSaid := over
end Go.Proofs.Ytaiikhbfnfcalaa.datasetMeets
namespace Go.Proofs.Ytaiikhbfnfcalaa
theorem datasetMeets_holds : Rows.DatasetMeetsSaid := datasetMeets.proved
#print axioms datasetMeets_holds
end Go.Proofs.Ytaiikhbfnfcalaa

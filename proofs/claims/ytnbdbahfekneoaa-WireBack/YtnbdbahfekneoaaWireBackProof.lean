/-
  The statement WireBack holds of the code at the commit that is named beside it, for every input.
-/
import Derived.Test.YtnbdbahfekneoaaRows
import Derived.Test.YtnbdbahfekneoaaP12LawsA
import Derived.Test.YtnbdbahfekneoaaX12I
import Derived.Lib.SmallJoins
import Derived.WalkKit
import Derived.ProofKit
import Derived.OpenShut
import Derived.ShutString
import Derived.ChangeOld
import Derived.Below
import Derived.Deep.Cut
import Derived.Deep.DeepCutAuto
import Derived.Deep.RegionWith
import Derived.BigRegion
import Derived.SizedLaws
namespace Go.Proofs.Ytnbdbahfekneoaa.wireBack
open Go.ChangeShapes Go.WideShapes Go.ChangeAt Go.RowKit
open Go.ChangeMaps (open_string shut_string)
set_option linter.unusedVariables false

theorem own : ownKnob Try.prog.godebug = none := by kernel_rfl
theorem laidOut : laidOutB Try.prog = true := by kernel_rfl

set_option maxHeartbeats 1600000 in
theorem walk (mk0 ma0 mb0 mc0 : Int) (pi0 : Option Addr) (li0 ci0 : Nat) (pr0 : Option Addr) (lr0 cr0 : Nat) (pn0 : Option Addr) (ln0 cn0 : Nat) (id0 ro0 : List Int) (na0 : List (List Int)) (w : World) (w0 : MsgIn w mk0 ma0 mb0 mc0 pi0 li0 ci0 pr0 lr0 cr0 pn0 ln0 cn0 id0 ro0 na0) :
    Calls Try.prog 6 #[.agg #[.int .i64 mk0, .int .i64 ma0, .int .i64 mb0, .int .i64 mc0, .slice pi0 li0 ci0, .slice pr0 lr0 cr0, .slice pn0 ln0 cn0]] w fun e w' => e = .returned (.bool true) ∧ Below w.heap.size w w' := by
  exact back12_walk enc_ok12 dec_ok12 mk0 ma0 mb0 mc0 pi0 li0 ci0 pr0 lr0 cr0 pn0 ln0 cn0 id0 ro0 na0 w w0

set_option maxRecDepth 100000 in
theorem lifted (os : Os) (started : os.Started) (H : Type) (enc : TypeId × Value → H) :
    ReturnsInHanded {} Try.checked os 6 .any (Rows.wireBackSpec.pre6 enc Try.prog Try.f6 Rows.wireBackRow.domain false) (Rows.wireBackSpec.post enc Try.prog Try.f6 false true false false) := by
  refine returnsInHanded_of_change_sized (C := Try.checked) own started (by kernel_rfl) Try.func6
    (ChangeSpec.witness6 (enc := enc) (C := Try.checked) false ⟨#[], #[.agg #[.int .i64 0, .int .i64 0, .int .i64 0, .int .i64 0, .slice none 0 0, .slice none 0 0, .slice none 0 0]], []⟩ 8 (by kernel_rfl) (by kernel_rfl) (by kernel_rfl) (by kernel_rfl)) ?_
  intro W base args ds gs before hval0 hW hcnd hsz0 _
  have hval : ∀ (j : Nat) t v, Try.f6.params[j]? = some t → args[j]? = some v → Value.okWide Try.prog W .any base t v := hval0
  have hW' := hW
  obtain ⟨p, q, hA0, hV, rfl, hfz, hnd⟩ := hW
  have hA : DataW.TrodAll enc Try.prog W 0 (fun _ => true) true Try.f6.params.toList args.toList ds p := hA0
  have hsz : (DataW.weightsEach Try.prog (Try.f6.params.toList ++ Rows.wireBackSpec.plain.varTypes Try.prog) (ds ++ gs)).all (· ≤ reachBytes) = true := hsz0
  rw [Try.params6] at hA hval hsz
  obtain ⟨v0, vs0, d0, ds0, p0, q0, hargs, rfl, rfl, h0, r0⟩ := trodAll_cons hA
  obtain ⟨rfl, rfl, rfl⟩ := trodAll_nil r0
  obtain rfl : args = #[v0] := by cases args; simp_all
  obtain ⟨rfl, rfl⟩ := trodVars_none hV
  have k0 := h0
  have lt0 : ∀ x ∈ p0, x.block < W.heap.size := by obtain ⟨m, hm⟩ := k0; exact DataW.trod_lt m _ _ _ hm
  obtain ⟨mk0, ma0, mb0, mc0, pi0, li0, ci0, pr0, lr0, cr0, pn0, ln0, cn0, id0, ro0, na0, hv0, w0⟩ := open_msg (hval 0 25 v0 rfl rfl) h0 (fun n hn => by
    have := List.all_eq_true.1 hsz n (DataW.weights_mem_each (j := 0) rfl rfl n hn)
    simpa using this)
  subst hv0
  clear hA0 hval0
  refine (walk mk0 ma0 mb0 mc0 pi0 li0 ci0 pr0 lr0 cr0 pn0 ln0 cn0 id0 ro0 na0 W w0).mono fun e W' ⟨he, bel⟩ => ?_
  subst he
  exact ⟨_, rfl, _, _, _, [], _, [], hW', trodAll_mk1 (shut_bool Try.underlying4 _), (trodAll_cons_mk (Below.trod laidOut (by kernel_rfl) (of_decide_eq_true (by kernel_rfl)) k0 bel lt0) trodAll_mk0), rfl, bel.frame _, fun h => by cases h⟩

theorem over : Rows.wireBackRow.holds Try.pinned (OpenSpec.ofChange Rows.wireBackSpec) :=
  OpenClaim.holds_of_wide 6 Try.f6 rfl rfl rfl rfl rfl rfl rfl ⟨rfl, rfl, rfl, rfl, rfl⟩ rfl rfl rfl rfl rfl (by kernel_rfl) Try.func6 (by kernel_rfl)
    (of_decide_eq_true (by kernel_rfl)) (by unfold Func.isWrapper; first | (rw [if_pos (by decide +kernel)]; kernel_rfl) | (rw [if_neg (by decide +kernel)]; exact ⟨rfl, rfl⟩))
    (fun os started H enc _ => lifted os started H enc)

theorem proved : Rows.WireBackSaid := over
end Go.Proofs.Ytnbdbahfekneoaa.wireBack
namespace Go.Proofs.Ytnbdbahfekneoaa
theorem wireBack_holds : Rows.WireBackSaid := wireBack.proved
#print axioms wireBack_holds
end Go.Proofs.Ytnbdbahfekneoaa

/-
  The statement NatParses holds of the code at the commit that is named beside it, for every input.
-/
import Derived.Test.YtennhoalgclhjabRows
import Derived.Test.YtennhoalgclhjabParseOne
import Derived.Test.YtennhoalgclhjabRefParse
import Derived.WalkKit
import Derived.ProofKit
import Derived.OpenShut
import Derived.ShutString
namespace Go.Proofs.Ytennhoalgclhjab.natParses
open Go.ChangeShapes Go.WideShapes Go.ChangeAt Go.RowKit
open Go.ChangeMaps (open_string shut_string)
set_option linter.unusedVariables false      -- a walk need not use every 'w<i>' (that an integer argument fits its kind)

theorem own : ownKnob Try.prog.godebug = none := by kernel_rfl

set_option maxHeartbeats 400000 in
theorem walk (a0 : ByteArray) (w0 : a0.size ≤ maxLen) (w : World) :
    Calls Try.prog 8 #[.string a0] w fun e w' => e = .returned (.bool true) ∧ Below w.heap.size w w' := by
  go_enter Try.func8, Try.ntmps8
  go_wp2_with fail
  refine (parse_any _ _ (by unfold maxLen; decide)).mono ?_
  rintro e v0 ⟨oa, on, oc, os, oe, rfl, ho, hor, hB0⟩
  have h1 : on = 1 := by
    have := parse_one hor
    have := ho.hlen
    omega
  subst h1
  clear hor ho
  go_wp2_with fail
  refine (parse_any a0 _ w0).mono ?_
  rintro e v1 ⟨xa, xn, xc, xs, xe, rfl, X, hxr, hb⟩
  have HX : Hid (ResParse a0 xs xe) := hxr
  have hB1 := hB0.trans (hb.mono hB0.size)
  clear hxr hb hB0
  go_wp2_with fail
  refine (refParse_any a0 _ w0).mono ?_
  rintro e v2 ⟨ya, yn, yc, ks, ye, rfl, Y, hyr, hb⟩
  obtain ⟨e1, e2⟩ := HX.out.unique hyr
  subst e1
  subst e2
  replace X := X.below hb
  have hB2 := hB1.trans (hb.mono hB1.size)
  clear hyr HX hb hB1
  go_wp2_with fail
  refine (same_any _ _ _ _ _ _ _ _ _ X Y).mono ?_
  rintro e v3 ⟨rfl, hb⟩
  rw [sameB_self]
  have hB3 := hB2.trans (hb.mono hB2.size)
  clear hb hB2 X Y
  go_wp2_with fail
  go_ret
  exact ⟨by simp, hB3⟩

set_option maxRecDepth 100000 in
theorem lifted (os : Os) (started : os.Started) (H : Type) (enc : TypeId × Value → H) :
    ReturnsInHanded {} Try.checked os 8 .any (Rows.natParsesSpec.pre6 enc Try.prog Try.f8 Rows.natParsesRow.domain false) (Rows.natParsesSpec.post enc Try.prog Try.f8 false true false false) := by
  refine returnsInHanded_of_change (C := Try.checked) own started (by kernel_rfl) Try.func8
    (ChangeSpec.witness6 (enc := enc) (C := Try.checked) false ⟨#[], #[.string ByteArray.empty], []⟩ 8 (by kernel_rfl) (by kernel_rfl) (by kernel_rfl) (by kernel_rfl)) ?_
  intro W base args ds gs before hval0 hW hcnd _
  have hval : ∀ (j : Nat) t v, Try.f8.params[j]? = some t → args[j]? = some v → Value.okWide Try.prog W .any base t v := hval0
  have hW' := hW
  obtain ⟨p, q, hA0, hV, rfl, hfz, hnd⟩ := hW
  have hA : DataW.TrodAll enc Try.prog W 0 (fun _ => true) true Try.f8.params.toList args.toList ds p := hA0
  rw [Try.params8] at hA hval
  obtain ⟨v0, vs0, d0, ds0, p0, q0, hargs, rfl, rfl, h0, r0⟩ := trodAll_cons hA
  obtain ⟨rfl, rfl, rfl⟩ := trodAll_nil r0
  obtain rfl : args = #[v0] := by cases args; simp_all
  obtain ⟨rfl, rfl⟩ := trodVars_none hV
  obtain ⟨a0, rfl, rfl, rfl, w0⟩ := open_string Try.underlying9 (hval 0 9 v0 rfl rfl) h0
  clear hA0 hval0
  refine (walk a0 w0 W).mono fun e W' ⟨he, hg⟩ => ?_
  subst he
  exact ⟨_, rfl, _, _, _, [], _, [], hW', trodAll_mk1 (shut_bool Try.underlying4 _), (trodAll_cons_mk (shut_string Try.underlying9 w0) trodAll_mk0), rfl, hg.frame _, fun h => by cases h⟩

theorem over : Rows.natParsesRow.holds Try.pinned (OpenSpec.ofChange Rows.natParsesSpec) :=
  OpenClaim.holds_of_wide 8 Try.f8 rfl rfl rfl rfl rfl rfl rfl ⟨rfl, rfl, rfl, rfl, rfl⟩ rfl rfl rfl rfl rfl (by kernel_rfl) Try.func8 (by kernel_rfl)
    (of_decide_eq_true (by kernel_rfl)) (by unfold Func.isWrapper; first | (rw [if_pos (by decide +kernel)]; kernel_rfl) | (rw [if_neg (by decide +kernel)]; exact ⟨rfl, rfl⟩))
    (fun os started H enc _ => lifted os started H enc)

theorem proved : Rows.NatParsesSaid :=
  over
end Go.Proofs.Ytennhoalgclhjab.natParses
namespace Go.Proofs.Ytennhoalgclhjab
theorem natParses_holds : Rows.NatParsesSaid := natParses.proved
#print axioms natParses_holds
end Go.Proofs.Ytennhoalgclhjab

/-
  The statement NatMoves holds of the code at the commit that is named beside it, for every input.
-/
import Derived.Test.YtennhoalgclhjabRows
import Derived.Test.YtennhoalgclhjabFew
import Derived.Test.YtennhoalgclhjabRefMovesA
import Derived.WalkKit
import Derived.ProofKit
import Derived.OpenShut
import Derived.ShutString
import Derived.ChangeOld
import Derived.Below
namespace Go.Proofs.Ytennhoalgclhjab.natMoves
open Go.ChangeShapes Go.WideShapes Go.ChangeAt Go.RowKit
open Go.ChangeMaps (open_string shut_string)
set_option linter.unusedVariables false

theorem own : ownKnob Try.prog.godebug = none := by kernel_rfl
theorem laidOut : laidOutB Try.prog = true := by kernel_rfl

set_option maxHeartbeats 400000 in
theorem walk (a0 : Option Addr) (len0 cap0 : Nat) (z0 : List Int) (a1 : Int) (w : World) (w0 : IsRow .u64 w a0 len0 cap0 z0) (w1 : (Lit.int .i64 a1).wf = true) :
    Calls Try.prog 4 #[.slice a0 len0 cap0, .int .i64 a1] w fun e w' => e = .returned (.bool true) ∧ Below w.heap.size w w' := by
  have H0 := Nums.of_row w0
  have hi := int_of_wf w1
  have F := few_one a0 len0 cap0 _ w H0
  generalize z0.take len0 = zs at H0 F
  cases hf : fewB [len0] with
  | false =>
    rw [hf] at F
    go_enter Try.func4, Try.ntmps4
    go_wp2_with fail
    refine F.mono ?_
    rintro e w' ⟨rfl, -, hb⟩
    go_wp2_with fail
    go_ret
    exact ⟨rfl, hb⟩
  | true =>
    rw [hf] at F
    clear w0 w1 H0 hf
    go_enter Try.func4, Try.ntmps4
    go_wp2_with fail
    refine F.mono ?_
    rintro e v0 ⟨rfl, A, hB0⟩
    clear F
    go_wp2_with fail
    refine (shl_any _ _ _ _ _ _ A hi).mono ?_
    rintro e v1 ⟨xa, xn, xc, xs, xe, rfl, X, hxr, -, hb⟩
    have HX : Hid (ResShl zs a1 xs xe) := hxr
    replace A := A.below hb
    have hB1 := hB0.trans (hb.mono hB0.size)
    clear hxr hb hB0
    go_wp2_with fail
    refine (refShl_any _ _ _ _ _ _ A).mono ?_
    rintro e v2 ⟨ya, yn, yc, ks, ye, rfl, Y, hyr, hb⟩
    obtain ⟨e1, e2⟩ := HX.out.unique hyr
    subst e1
    subst e2
    replace A := A.below hb
    replace X := X.below hb
    have hB2 := hB1.trans (hb.mono hB1.size)
    clear hyr HX hb hB1
    go_wp2_with fail
    refine (same_any _ _ _ _ _ _ _ _ _ X Y).mono ?_
    rintro e v3 ⟨rfl, hb⟩
    rw [sameB_self]
    replace A := A.below hb
    have hB3 := hB2.trans (hb.mono hB2.size)
    clear hb hB2 X Y
    go_wp2_with fail
    refine (shr_any _ _ _ _ _ _ A).mono ?_
    rintro e v4 ⟨ta, tn, tc, ts, te, rfl, X, hxr, -, hb⟩
    have HX : Hid (ResShr zs a1 ts te) := hxr
    replace A := A.below hb
    have hB4 := hB3.trans (hb.mono hB3.size)
    clear hxr hb hB3
    go_wp2_with fail
    refine (refShr_any _ _ _ _ _ _ A).mono ?_
    rintro e v5 ⟨ua, un, uc, us, ue, rfl, Y, hyr, hb⟩
    obtain ⟨e1, e2⟩ := HX.out.unique hyr
    subst e1
    subst e2
    replace X := X.below hb
    have hB5 := hB4.trans (hb.mono hB4.size)
    clear hyr HX hb hB4 A
    go_wp2_with fail
    refine (same_any _ _ _ _ _ _ _ _ _ X Y).mono ?_
    rintro e v6 ⟨rfl, hb⟩
    rw [sameB_self]
    have hB6 := hB5.trans (hb.mono hB5.size)
    clear hb hB5 X Y
    have L1 := Nums.lit1 v6 1 (by omega) 29
    have hB7 := hB6.alloc hB6.size (.cells #[.int .u64 1] 29)
    clear hB6
    go_wp2_with fail
    refine (shl_any _ _ _ [1] _ _ L1 (by omega)).mono ?_
    rintro e v7 ⟨oa, on, oc, os, oe, rfl, ho, hor, -, hb⟩
    have h1 : on = 1 := by
      have := shl_one hor
      have := ho.hlen
      omega
    subst h1
    have hB8 := hB7.trans (hb.mono hB7.size)
    clear hor ho hb hB7 L1
    go_wp2_with fail
    go_ret
    exact ⟨by simp, hB8⟩

set_option maxRecDepth 100000 in
theorem lifted (os : Os) (started : os.Started) (H : Type) (enc : TypeId × Value → H) :
    ReturnsInHanded {} Try.checked os 4 .any (Rows.natMovesSpec.pre6 enc Try.prog Try.f4 Rows.natMovesRow.domain false) (Rows.natMovesSpec.post enc Try.prog Try.f4 false true false false) := by
  refine returnsInHanded_of_change (C := Try.checked) own started (by kernel_rfl) Try.func4
    (ChangeSpec.witness6 (enc := enc) (C := Try.checked) false ⟨#[], #[.slice none 0 0, .int .i64 0], []⟩ 8 (by kernel_rfl) (by kernel_rfl) (by kernel_rfl) (by kernel_rfl)) ?_
  intro W base args ds gs before hval0 hW hcnd _
  have hval : ∀ (j : Nat) t v, Try.f4.params[j]? = some t → args[j]? = some v → Value.okWide Try.prog W .any base t v := hval0
  have hW' := hW
  obtain ⟨p, q, hA0, hV, rfl, hfz, hnd⟩ := hW
  have hA : DataW.TrodAll enc Try.prog W 0 (fun _ => true) true Try.f4.params.toList args.toList ds p := hA0
  rw [Try.params4] at hA hval
  obtain ⟨v0, vs0, d0, ds0, p0, q0, hargs, rfl, rfl, h0, r0⟩ := trodAll_cons hA
  obtain ⟨v1, vs1, d1, ds1, p1, q1, rfl, rfl, rfl, h1, r1⟩ := trodAll_cons r0
  obtain ⟨rfl, rfl, rfl⟩ := trodAll_nil r1
  obtain rfl : args = #[v0, v1] := by cases args; simp_all
  obtain ⟨rfl, rfl⟩ := trodVars_none hV
  obtain ⟨a0, len0, cap0, rfl⟩ := okWide_slice Try.underlying23 (hval 0 23 v0 rfl rfl)
  have k0 := h0
  have lt0 : ∀ x ∈ p0, x.block < W.heap.size := by obtain ⟨m, hm⟩ := k0; exact DataW.trod_lt m _ _ _ hm
  obtain ⟨z0, w0⟩ : ∃ zs, IsRow .u64 W a0 len0 cap0 zs := by
    obtain ⟨fuel, hf⟩ := h0
    rcases open_ints Try.underlying23 Try.underlying29 (by kernel_rfl) hf with ⟨hcs, _⟩ | ⟨x, l, c, zs, hcs, _, hl, hm, hz, _, hcell, hwz⟩
    · simp [Value.cells] at hcs
      obtain ⟨rfl, rfl, rfl⟩ := hcs
      exact ⟨[], .inl ⟨rfl, rfl, rfl, rfl⟩⟩
    · simp [Value.cells] at hcs
      obtain ⟨rfl, rfl, rfl⟩ := hcs
      exact ⟨zs, .inr ⟨_, rfl, hl, hm, by simpa using hz, hcell, hwz⟩⟩
  obtain ⟨a1, rfl, rfl, rfl, w1⟩ := open_int Try.underlying3 (hval 1 3 v1 rfl rfl) h1
  clear hA0 hval0
  refine (walk a0 len0 cap0 z0 a1 W w0 w1).mono fun e W' ⟨he, bel⟩ => ?_
  subst he
  exact ⟨_, rfl, _, _, _, [], _, [], hW', trodAll_mk1 (shut_bool Try.underlying4 _), (trodAll_cons_mk (Below.trod laidOut (by kernel_rfl) (of_decide_eq_true (by kernel_rfl)) k0 bel lt0) (trodAll_cons_mk (shut_int Try.underlying3 w1) trodAll_mk0)), rfl, bel.frame _, fun h => by cases h⟩

theorem over : Rows.natMovesRow.holds Try.pinned (OpenSpec.ofChange Rows.natMovesSpec) :=
  OpenClaim.holds_of_wide 4 Try.f4 rfl rfl rfl rfl rfl rfl rfl ⟨rfl, rfl, rfl, rfl, rfl⟩ rfl rfl rfl rfl rfl (by kernel_rfl) Try.func4 (by kernel_rfl)
    (of_decide_eq_true (by kernel_rfl)) (by unfold Func.isWrapper; first | (rw [if_pos (by decide +kernel)]; kernel_rfl) | (rw [if_neg (by decide +kernel)]; exact ⟨rfl, rfl⟩))
    (fun os started H enc _ => lifted os started H enc)

theorem proved : Rows.NatMovesSaid := over
end Go.Proofs.Ytennhoalgclhjab.natMoves
namespace Go.Proofs.Ytennhoalgclhjab
theorem natMoves_holds : Rows.NatMovesSaid := natMoves.proved
#print axioms natMoves_holds
end Go.Proofs.Ytennhoalgclhjab

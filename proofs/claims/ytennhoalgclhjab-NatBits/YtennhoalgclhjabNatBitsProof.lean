/-
  The statement NatBits holds of the code at the commit that is named beside it, for every input.
-/
import Derived.Test.YtennhoalgclhjabRows
import Derived.Test.YtennhoalgclhjabTwo
import Derived.Test.YtennhoalgclhjabBits
import Derived.WalkKit
import Derived.ProofKit
import Derived.OpenShut
import Derived.ShutString
import Derived.ChangeOld
import Derived.Below
namespace Go.Proofs.Ytennhoalgclhjab.natBits
open Go.ChangeShapes Go.WideShapes Go.ChangeAt Go.RowKit
open Go.ChangeMaps (open_string shut_string)
set_option linter.unusedVariables false

theorem own : ownKnob Try.prog.godebug = none := by kernel_rfl
theorem laidOut : laidOutB Try.prog = true := by kernel_rfl

set_option maxHeartbeats 400000 in
theorem walk (a0 : Option Addr) (len0 cap0 : Nat) (z0 : List Int) (a1 : Int) (w : World) (w0 : IsRow .u64 w a0 len0 cap0 z0) (w1 : (Lit.int .i64 a1).wf = true) :
    Calls Try.prog 5 #[.slice a0 len0 cap0, .int .i64 a1] w fun e w' => e = .returned (.bool true) ∧ Below w.heap.size w w' := by
  have H0 := Nums.of_row w0
  have hi := int_of_wf w1
  have F := few_one a0 len0 cap0 _ w H0
  generalize z0.take len0 = zs at H0 F
  have e1 : bitsZ [1] = 1 := by decide
  have e2 : bitB [1] 0 = true := by decide
  cases hf : fewB [len0] with
  | false =>
    rw [hf] at F
    go_enter Try.func5, Try.ntmps5
    go_wp2_with fail
    refine F.mono ?_
    rintro e w' ⟨rfl, -, hb⟩
    go_wp2_with fail
    go_ret
    exact ⟨rfl, hb⟩
  | true =>
    rw [hf] at F
    clear w0 w1 H0 hf
    go_enter Try.func5, Try.ntmps5
    go_wp2_with fail
    refine F.mono ?_
    rintro e v0 ⟨rfl, A, hB0⟩
    clear F
    have L1 := Nums.lit1 v0 1 (by omega) 29
    have b1 := (Below.refl v0.heap.size v0).alloc (Nat.le_refl _) (.cells #[.int .u64 1] 29)
    have hB1 := hB0.alloc hB0.size (.cells #[.int .u64 1] 29)
    replace A := A.below b1
    clear b1 hB0
    go_wp2_with fail
    refine (bits_any _ _ _ [1] _ L1).mono ?_
    rintro e v1 ⟨rfl, hv⟩
    rw [e1]
    rw [← hv] at A hB1
    clear hv L1
    have L1 := Nums.lit1 v1 1 (by omega) 29
    have b1 := (Below.refl v1.heap.size v1).alloc (Nat.le_refl _) (.cells #[.int .u64 1] 29)
    have hB2 := hB1.alloc hB1.size (.cells #[.int .u64 1] 29)
    replace A := A.below b1
    clear b1 hB1
    go_wp2_with fail
    refine (bit_any _ _ _ [1] _ _ L1 (by omega)).mono ?_
    rintro e v2 ⟨rfl, hv⟩
    rw [e2]
    rw [← hv] at A hB2
    clear hv L1 e1 e2
    go_wp2_with fail
    refine (bits_any _ _ _ _ _ A).mono ?_
    rintro e w' ⟨rfl, rfl⟩
    go_wp2_with fail
    refine (refBits_any _ _ _ _ _ A).mono ?_
    rintro e w' ⟨rfl, rfl⟩
    go_wp2_with fail
    refine (bit_any _ _ _ _ _ _ A hi.2).mono ?_
    rintro e w' ⟨rfl, rfl⟩
    go_wp2_with fail
    refine (refBit_any _ _ _ _ _ _ A hi.2).mono ?_
    rintro e w' ⟨rfl, rfl⟩
    go_wp2_with fail
    go_ret
    exact ⟨by simp, hB2⟩

set_option maxRecDepth 100000 in
theorem lifted (os : Os) (started : os.Started) (H : Type) (enc : TypeId × Value → H) :
    ReturnsInHanded {} Try.checked os 5 .any (Rows.natBitsSpec.pre6 enc Try.prog Try.f5 Rows.natBitsRow.domain false) (Rows.natBitsSpec.post enc Try.prog Try.f5 false true false false) := by
  refine returnsInHanded_of_change (C := Try.checked) own started (by kernel_rfl) Try.func5
    (ChangeSpec.witness6 (enc := enc) (C := Try.checked) false ⟨#[], #[.slice none 0 0, .int .i64 0], []⟩ 8 (by kernel_rfl) (by kernel_rfl) (by kernel_rfl) (by kernel_rfl)) ?_
  intro W base args ds gs before hval0 hW hcnd _
  have hval : ∀ (j : Nat) t v, Try.f5.params[j]? = some t → args[j]? = some v → Value.okWide Try.prog W .any base t v := hval0
  have hW' := hW
  obtain ⟨p, q, hA0, hV, rfl, hfz, hnd⟩ := hW
  have hA : DataW.TrodAll enc Try.prog W 0 (fun _ => true) true Try.f5.params.toList args.toList ds p := hA0
  rw [Try.params5] at hA hval
  obtain ⟨v0, vs0, d0, ds0, p0, q0, hargs, rfl, rfl, h0, r0⟩ := trodAll_cons hA
  obtain ⟨v1, vs1, d1, ds1, p1, q1, rfl, rfl, rfl, h1, r1⟩ := trodAll_cons r0
  obtain ⟨rfl, rfl, rfl⟩ := trodAll_nil r1
  obtain rfl : args = #[v0, v1] := by cases args; simp_all
  obtain ⟨rfl, rfl⟩ := trodVars_none hV
  obtain ⟨a0, len0, cap0, rfl⟩ := okWide_slice Try.underlying23 (hval 0 23 v0 rfl rfl)
  have k0 := h0
  have lt0 : ∀ x ∈ p0, x.block < W.heap.size := by obtain ⟨m, hm⟩ := k0; exact DataW.trod_lt m _ _ _ hm
  obtain ⟨z0, w0⟩ : ∃ zs, IsRow .u64 W a0 len0 cap0 zs := by
    obtain ⟨fuel, hf⟩ := h0
    rcases open_ints Try.underlying23 Try.underlying29 (by kernel_rfl) hf with ⟨hcs, _⟩ | ⟨x, l, c, zs, hcs, _, hl, hm, hz, _, hcell, hwz⟩
    · simp [Value.cells] at hcs
      obtain ⟨rfl, rfl, rfl⟩ := hcs
      exact ⟨[], .inl ⟨rfl, rfl, rfl, rfl⟩⟩
    · simp [Value.cells] at hcs
      obtain ⟨rfl, rfl, rfl⟩ := hcs
      exact ⟨zs, .inr ⟨_, rfl, hl, hm, by simpa using hz, hcell, hwz⟩⟩
  obtain ⟨a1, rfl, rfl, rfl, w1⟩ := open_int Try.underlying3 (hval 1 3 v1 rfl rfl) h1
  clear hA0 hval0
  refine (walk a0 len0 cap0 z0 a1 W w0 w1).mono fun e W' ⟨he, bel⟩ => ?_
  subst he
  exact ⟨_, rfl, _, _, _, [], _, [], hW', trodAll_mk1 (shut_bool Try.underlying4 _), (trodAll_cons_mk (Below.trod laidOut (by kernel_rfl) (of_decide_eq_true (by kernel_rfl)) k0 bel lt0) (trodAll_cons_mk (shut_int Try.underlying3 w1) trodAll_mk0)), rfl, bel.frame _, fun h => by cases h⟩

theorem over : Rows.natBitsRow.holds Try.pinned (OpenSpec.ofChange Rows.natBitsSpec) :=
  OpenClaim.holds_of_wide 5 Try.f5 rfl rfl rfl rfl rfl rfl rfl ⟨rfl, rfl, rfl, rfl, rfl⟩ rfl rfl rfl rfl rfl (by kernel_rfl) Try.func5 (by kernel_rfl)
    (of_decide_eq_true (by kernel_rfl)) (by unfold Func.isWrapper; first | (rw [if_pos (by decide +kernel)]; kernel_rfl) | (rw [if_neg (by decide +kernel)]; exact ⟨rfl, rfl⟩))
    (fun os started H enc _ => lifted os started H enc)

theorem proved : Rows.NatBitsSaid := over
end Go.Proofs.Ytennhoalgclhjab.natBits
namespace Go.Proofs.Ytennhoalgclhjab
theorem natBits_holds : Rows.NatBitsSaid := natBits.proved
#print axioms natBits_holds
end Go.Proofs.Ytennhoalgclhjab

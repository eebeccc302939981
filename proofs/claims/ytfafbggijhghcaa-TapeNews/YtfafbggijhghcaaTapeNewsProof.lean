/-
  The statement TapeNews holds of the code at the commit that is named beside it, for every input.
-/
import Derived.Test.YtfafbggijhghcaaRows
import Derived.Test.YtfafbggijhghcaaTapeF
import Derived.WalkKit
import Derived.ProofKit
import Derived.OpenShut
import Derived.ShutString
import Derived.ChangeOld
import Derived.Below
import Derived.Deep.Cut
import Derived.Deep.DeepCutAuto
import Derived.Deep.RegionWith
import Derived.BigRegion
namespace Go.Proofs.Ytfafbggijhghcaa.tapeNews
open Go.ChangeShapes Go.WideShapes Go.ChangeAt Go.RowKit
open Go.ChangeMaps (open_string shut_string)
set_option linter.unusedVariables false

theorem own : ownKnob Try.prog.godebug = none := by kernel_rfl
theorem laidOut : laidOutB Try.prog = true := by kernel_rfl

theorem open_oneB {H : Type} {enc : TypeId × Value → H} {W : World} {m : Nat} {c : Value} {x : DataW H × List MemPlace} (hf : DataW.trod enc Try.prog W 0 (fun _ => true) true m 22 [c] = some x) : ∃ a len cap zs, c = .slice a len cap ∧ IsRow .u8 W a len cap zs := by
  rcases open_ints Try.underlying22 Try.underlying5 (by kernel_rfl) hf with ⟨hcs, _⟩ | ⟨x, l, c, zs, hcs, _, hl, hm, hz, _, hcell, hwz⟩
  · simp at hcs
    exact ⟨none, 0, 0, [], hcs, .inl ⟨rfl, rfl, rfl, rfl⟩⟩
  · simp at hcs
    exact ⟨_, _, _, zs, hcs, .inr ⟨_, rfl, hl, hm, by simpa using hz, hcell, hwz⟩⟩

set_option maxHeartbeats 1600000 in
theorem walk (a0 : Option Addr) (len0 cap0 : Nat) (z0 : List Int) (w : World) (w0 : IsRow .u8 w a0 len0 cap0 z0) :
    Calls Try.prog 3 #[.slice a0 len0 cap0] w fun e w' => e = .returned (.bool true) ∧ Below w.heap.size w w' := by
  have H0 := Byts.of_row w0
  have hnil := row_nil w0
  generalize z0.take len0 = bs at H0
  clear w0
  go_enter Try.func3, Try.ntmps3
  go_wp2_with fail
  refine (fresh_any _ _ _ _ _ H0 hnil).mono ?_
  rintro e w1 ⟨hb1, ⟨hl, rfl⟩ | ⟨hl, g, k, rfl, hT, hR, hg, hk⟩⟩
  · have L1 := Byts.lit1 w1 1 (by omega) 5
    have b1 := hb1.alloc hb1.size (.cells #[.int .u8 1] 5)
    go_wp2_with fail
    refine (fresh_any _ _ _ _ _ L1 (by intro e; cases e)).mono ?_
    rintro e w2 ⟨hb2, ⟨hl2, rfl⟩ | ⟨_, g2, k2, rfl, hT2, hR2, -, -⟩⟩
    · omega
    · have hB := b1.trans (hb2.mono b1.size)
      clear hT2 hR2 hb2 b1 hb1 L1
      go_wp2
      go_ret
      exact ⟨rfl, hB⟩
  · have L1 := Byts.lit1 w1 1 (by omega) 5
    have b0 := (Below.refl w1.heap.size w1).alloc (Nat.le_refl _) (.cells #[.int .u8 1] 5)
    have b1 := hb1.alloc hb1.size (.cells #[.int .u8 1] 5)
    have hT1 := hT.below b0
    have hR1 := hR.below b0
    clear hT hR b0
    go_wp2_with fail
    refine (fresh_any _ _ _ _ _ L1 (by intro e; cases e)).mono ?_
    rintro e w2 ⟨hb2, ⟨hl2, rfl⟩ | ⟨_, g2, k2, rfl, -, -, -, -⟩⟩
    · omega
    · have hB := b1.trans (hb2.mono b1.size)
      have hT3 := hT1.below hb2
      have hR3 := hR1.below hb2
      clear hT1 hR1 hb2 b1 hb1 L1
      go_wp2_with fail
      refine (left_any _ _ _ hT3).mono ?_
      rintro e w3 ⟨rfl, rfl⟩
      go_wp2_with fail
      refine (rleft_any _ _ _ hR3).mono ?_
      rintro e w4 ⟨rfl, hb4⟩
      have hB4 := hB.trans (hb4.mono hB.size)
      go_wp2
      go_ret
      exact ⟨by simp, hB4⟩

set_option maxRecDepth 100000 in
theorem lifted (os : Os) (started : os.Started) (H : Type) (enc : TypeId × Value → H) :
    ReturnsInHanded {} Try.checked os 3 .any (Rows.tapeNewsSpec.pre6 enc Try.prog Try.f3 Rows.tapeNewsRow.domain false) (Rows.tapeNewsSpec.post enc Try.prog Try.f3 false true false false) := by
  refine returnsInHanded_of_change (C := Try.checked) own started (by kernel_rfl) Try.func3
    (ChangeSpec.witness6 (enc := enc) (C := Try.checked) false ⟨#[], #[.slice none 0 0], []⟩ 8 (by kernel_rfl) (by kernel_rfl) (by kernel_rfl) (by kernel_rfl)) ?_
  intro W base args ds gs before hval0 hW hcnd _
  have hval : ∀ (j : Nat) t v, Try.f3.params[j]? = some t → args[j]? = some v → Value.okWide Try.prog W .any base t v := hval0
  have hW' := hW
  obtain ⟨p, q, hA0, hV, rfl, hfz, hnd⟩ := hW
  have hA : DataW.TrodAll enc Try.prog W 0 (fun _ => true) true Try.f3.params.toList args.toList ds p := hA0
  rw [Try.params3] at hA hval
  obtain ⟨v0, vs0, d0, ds0, p0, q0, hargs, rfl, rfl, h0, r0⟩ := trodAll_cons hA
  obtain ⟨rfl, rfl, rfl⟩ := trodAll_nil r0
  obtain rfl : args = #[v0] := by cases args; simp_all
  obtain ⟨rfl, rfl⟩ := trodVars_none hV
  obtain ⟨a0, len0, cap0, rfl⟩ := okWide_slice Try.underlying22 (hval 0 22 v0 rfl rfl)
  have k0 := h0
  have lt0 : ∀ x ∈ p0, x.block < W.heap.size := by obtain ⟨m, hm⟩ := k0; exact DataW.trod_lt m _ _ _ hm
  obtain ⟨z0, w0⟩ : ∃ zs, IsRow .u8 W a0 len0 cap0 zs := by
    obtain ⟨fuel, hf⟩ := h0
    obtain ⟨a, l, c, zs, e, hz⟩ := open_oneB hf
    simp at e
    obtain ⟨rfl, rfl, rfl⟩ := e
    exact ⟨zs, hz⟩
  clear hA0 hval0
  refine (walk a0 len0 cap0 z0 W w0).mono fun e W' ⟨he, bel⟩ => ?_
  subst he
  exact ⟨_, rfl, _, _, _, [], _, [], hW', trodAll_mk1 (shut_bool Try.underlying4 _), (trodAll_cons_mk (Below.trod laidOut (by kernel_rfl) (of_decide_eq_true (by kernel_rfl)) k0 bel lt0) trodAll_mk0), rfl, bel.frame _, fun h => by cases h⟩

theorem over : Rows.tapeNewsRow.holds Try.pinned (OpenSpec.ofChange Rows.tapeNewsSpec) :=
  OpenClaim.holds_of_wide 3 Try.f3 rfl rfl rfl rfl rfl rfl rfl ⟨rfl, rfl, rfl, rfl, rfl⟩ rfl rfl rfl rfl rfl (by kernel_rfl) Try.func3 (by kernel_rfl)
    (of_decide_eq_true (by kernel_rfl)) (by unfold Func.isWrapper; first | (rw [if_pos (by decide +kernel)]; kernel_rfl) | (rw [if_neg (by decide +kernel)]; exact ⟨rfl, rfl⟩))
    (fun os started H enc _ => lifted os started H enc)

theorem proved : Rows.TapeNewsSaid := over
end Go.Proofs.Ytfafbggijhghcaa.tapeNews
namespace Go.Proofs.Ytfafbggijhghcaa
theorem tapeNews_holds : Rows.TapeNewsSaid := tapeNews.proved
#print axioms tapeNews_holds
end Go.Proofs.Ytfafbggijhghcaa

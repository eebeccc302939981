/-
  The statement NatCompares holds of the code at the commit that is named beside it, for every input.
-/
import Derived.Test.YtennhoalgclhjaaRows
import Derived.Test.YtennhoalgclhjaaRefCmp
import Derived.WalkKit
import Derived.ProofKit
import Derived.OpenShut
import Derived.ShutString
import Derived.ChangeOld
import Derived.Below
namespace Go.Proofs.Ytennhoalgclhjaa.natCompares
open Go.ChangeShapes Go.WideShapes Go.ChangeAt Go.RowKit
open Go.ChangeMaps (open_string shut_string)
set_option linter.unusedVariables false

theorem own : ownKnob Try.prog.godebug = none := by kernel_rfl
theorem laidOut : laidOutB Try.prog = true := by kernel_rfl

set_option maxHeartbeats 400000 in
theorem walk (a0 : Option Addr) (len0 cap0 : Nat) (z0 : List Int) (a1 : Option Addr) (len1 cap1 : Nat) (z1 : List Int) (w : World) (w0 : IsRow .u64 w a0 len0 cap0 z0) (w1 : IsRow .u64 w a1 len1 cap1 z1) :
    Calls Try.prog 5 #[.slice a0 len0 cap0, .slice a1 len1 cap1] w fun e w' => e = .returned (.bool true) ∧ Below w.heap.size w w' := by
  have H0 := Nums.of_row w0
  have H1 := Nums.of_row w1
  have hm0 := H0.hmax
  have hm1 := H1.hmax
  have hc0 := H0.hcap
  have hc1 := H1.hcap
  have h21 : cmpN [2] [1] = 1 := by decide
  have F := few_any w.heap.size 2 2 [len0, len1] (w.alloc (.cells #[.slice a0 len0 cap0, .slice a1 len1 cap1] 23)) rfl (by omega)
    (by intro l hl; simp at hl; rcases hl with rfl | rfl <;> omega)
    (by intro i hi; match i, hi with
        | 0, _ => exact ⟨a0, cap0, by simp⟩
        | 1, _ => exact ⟨a1, cap1, by simp⟩)
  have hB0 := (Below.refl w.heap.size w).alloc (Nat.le_refl _) (.cells #[.slice a0 len0 cap0, .slice a1 len1 cap1] 23)
  cases hf : fewB [len0, len1] with
  | false =>
    rw [hf] at F
    go_enter Try.func5, Try.ntmps5
    go_wp2_with fail
    refine F.mono ?_
    rintro e w' ⟨rfl, rfl⟩
    go_wp2_with fail
    go_ret
    exact ⟨rfl, hB0⟩
  | true =>
    rw [hf] at F
    have G0 := H0.below hB0
    have G1 := H1.below hB0
    go_enter Try.func5, Try.ntmps5
    go_wp2_with fail
    refine F.mono ?_
    rintro e v0 ⟨rfl, hv0⟩
    rw [← hv0] at hB0 G0 G1
    clear hv0 F hf w0 w1 H0 H1
    have L2 := Nums.lit1 v0 2 (by omega) 25
    have b2 := (Below.refl v0.heap.size v0).alloc (Nat.le_refl _) (.cells #[.int .u64 2] 25)
    have L1 := Nums.lit1 (v0.alloc (.cells #[.int .u64 2] 25)) 1 (by omega) 25
    have b1 := (Below.refl (v0.alloc (.cells #[.int .u64 2] 25)).heap.size (v0.alloc (.cells #[.int .u64 2] 25))).alloc (Nat.le_refl _) (.cells #[.int .u64 1] 25)
    have b3 := b2.trans (b1.mono b2.size)
    have L2' := L2.below b1
    simp only [World.size_alloc] at L1
    have G0' := G0.below b3
    have G1' := G1.below b3
    have hB1 := hB0.trans (b3.mono hB0.size)
    clear hB0 b1 b2 b3 L2 G0 G1
    go_wp2_with fail
    refine (cmp_any _ _ _ _ _ _ [2] [1] _ L2' L1).mono ?_
    rintro e v1 ⟨rfl, hb⟩
    rw [h21]
    have G2 := G0'.below hb
    have G3 := G1'.below hb
    have hB2 := hB1.trans (hb.mono hB1.size)
    clear hb hB1 G0' G1' L2' L1
    go_wp2_with fail
    refine (cmp_any _ _ _ _ _ _ _ _ _ G2 G3).mono ?_
    rintro e v2 ⟨rfl, hb⟩
    have G4 := G2.below hb
    have G5 := G3.below hb
    have hB3 := hB2.trans (hb.mono hB2.size)
    clear hb hB2 G2 G3
    go_wp2_with fail
    refine (refCmp_any _ _ _ _ _ _ _ _ _ G4 G5).mono ?_
    rintro e v3 ⟨rfl, hb⟩
    have hB4 := hB3.trans (hb.mono hB3.size)
    go_wp2_with fail
    go_ret
    exact ⟨by simp, hB4⟩

set_option maxRecDepth 100000 in
theorem lifted (os : Os) (started : os.Started) (H : Type) (enc : TypeId × Value → H) :
    ReturnsInHanded {} Try.checked os 5 .any (Rows.natComparesSpec.pre6 enc Try.prog Try.f5 Rows.natComparesRow.domain false) (Rows.natComparesSpec.post enc Try.prog Try.f5 false true false false) := by
  refine returnsInHanded_of_change (C := Try.checked) own started (by kernel_rfl) Try.func5
    (ChangeSpec.witness6 (enc := enc) (C := Try.checked) false ⟨#[], #[.slice none 0 0, .slice none 0 0], []⟩ 8 (by kernel_rfl) (by kernel_rfl) (by kernel_rfl) (by kernel_rfl)) ?_
  intro W base args ds gs before hval0 hW hcnd _
  have hval : ∀ (j : Nat) t v, Try.f5.params[j]? = some t → args[j]? = some v → Value.okWide Try.prog W .any base t v := hval0
  have hW' := hW
  obtain ⟨p, q, hA0, hV, rfl, hfz, hnd⟩ := hW
  have hA : DataW.TrodAll enc Try.prog W 0 (fun _ => true) true Try.f5.params.toList args.toList ds p := hA0
  rw [Try.params5] at hA hval
  obtain ⟨v0, vs0, d0, ds0, p0, q0, hargs, rfl, rfl, h0, r0⟩ := trodAll_cons hA
  obtain ⟨v1, vs1, d1, ds1, p1, q1, rfl, rfl, rfl, h1, r1⟩ := trodAll_cons r0
  obtain ⟨rfl, rfl, rfl⟩ := trodAll_nil r1
  obtain rfl : args = #[v0, v1] := by cases args; simp_all
  obtain ⟨rfl, rfl⟩ := trodVars_none hV
  obtain ⟨a0, len0, cap0, rfl⟩ := okWide_slice Try.underlying23 (hval 0 23 v0 rfl rfl)
  have k0 := h0
  have lt0 : ∀ x ∈ p0, x.block < W.heap.size := by obtain ⟨m, hm⟩ := k0; exact DataW.trod_lt m _ _ _ hm
  obtain ⟨z0, w0⟩ : ∃ zs, IsRow .u64 W a0 len0 cap0 zs := by
    obtain ⟨fuel, hf⟩ := h0
    rcases open_ints Try.underlying23 Try.underlying25 (by kernel_rfl) hf with ⟨hcs, _⟩ | ⟨x, l, c, zs, hcs, _, hl, hm, hz, _, hcell, hwz⟩
    · simp [Value.cells] at hcs
      obtain ⟨rfl, rfl, rfl⟩ := hcs
      exact ⟨[], .inl ⟨rfl, rfl, rfl, rfl⟩⟩
    · simp [Value.cells] at hcs
      obtain ⟨rfl, rfl, rfl⟩ := hcs
      exact ⟨zs, .inr ⟨_, rfl, hl, hm, by simpa using hz, hcell, hwz⟩⟩
  obtain ⟨a1, len1, cap1, rfl⟩ := okWide_slice Try.underlying23 (hval 1 23 v1 rfl rfl)
  have k1 := h1
  have lt1 : ∀ x ∈ p1, x.block < W.heap.size := by obtain ⟨m, hm⟩ := k1; exact DataW.trod_lt m _ _ _ hm
  obtain ⟨z1, w1⟩ : ∃ zs, IsRow .u64 W a1 len1 cap1 zs := by
    obtain ⟨fuel, hf⟩ := h1
    rcases open_ints Try.underlying23 Try.underlying25 (by kernel_rfl) hf with ⟨hcs, _⟩ | ⟨x, l, c, zs, hcs, _, hl, hm, hz, _, hcell, hwz⟩
    · simp [Value.cells] at hcs
      obtain ⟨rfl, rfl, rfl⟩ := hcs
      exact ⟨[], .inl ⟨rfl, rfl, rfl, rfl⟩⟩
    · simp [Value.cells] at hcs
      obtain ⟨rfl, rfl, rfl⟩ := hcs
      exact ⟨zs, .inr ⟨_, rfl, hl, hm, by simpa using hz, hcell, hwz⟩⟩
  clear hA0 hval0
  refine (walk a0 len0 cap0 z0 a1 len1 cap1 z1 W w0 w1).mono fun e W' ⟨he, bel⟩ => ?_
  subst he
  exact ⟨_, rfl, _, _, _, [], _, [], hW', trodAll_mk1 (shut_bool Try.underlying4 _), (trodAll_cons_mk (Below.trod laidOut (by kernel_rfl) (of_decide_eq_true (by kernel_rfl)) k0 bel lt0) (trodAll_cons_mk (Below.trod laidOut (by kernel_rfl) (of_decide_eq_true (by kernel_rfl)) k1 bel lt1) trodAll_mk0)), rfl, bel.frame _, fun h => by cases h⟩

theorem over : Rows.natComparesRow.holds Try.pinned (OpenSpec.ofChange Rows.natComparesSpec) :=
  OpenClaim.holds_of_wide 5 Try.f5 rfl rfl rfl rfl rfl rfl rfl ⟨rfl, rfl, rfl, rfl, rfl⟩ rfl rfl rfl rfl rfl (by kernel_rfl) Try.func5 (by kernel_rfl)
    (of_decide_eq_true (by kernel_rfl)) (by unfold Func.isWrapper; first | (rw [if_pos (by decide +kernel)]; kernel_rfl) | (rw [if_neg (by decide +kernel)]; exact ⟨rfl, rfl⟩))
    (fun os started H enc _ => lifted os started H enc)

theorem proved : Rows.NatComparesSaid := over
end Go.Proofs.Ytennhoalgclhjaa.natCompares
namespace Go.Proofs.Ytennhoalgclhjaa
theorem natCompares_holds : Rows.NatComparesSaid := natCompares.proved
#print axioms natCompares_holds
end Go.Proofs.Ytennhoalgclhjaa

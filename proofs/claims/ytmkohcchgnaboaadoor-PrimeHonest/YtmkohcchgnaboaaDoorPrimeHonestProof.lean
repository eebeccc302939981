/-
  The statement PrimeHonest holds of the code at the commit that is named beside it, for every input.
-/
import Derived.Test.YtmkohcchgnaboaaDoorRows
import Derived.Test.YtmkohcchgnaboaaDoorP5LawsW
import Derived.WalkKit
import Derived.ProofKit
import Derived.OpenShut
import Derived.ShutString
import Derived.ChangeOld
import Derived.Below
import Derived.Deep.Cut
import Derived.Deep.DeepCutAuto
import Derived.Deep.RegionWith
import Derived.BigRegion
import Derived.LaidMore
import Derived.Stop.Joined
import Derived.Lib.LaidTab
import Derived.SevenTiedAt
import Derived.Test.YtmkohcchgnaboaaDoorTie
import Derived.Test.YtmkohcchgnaboaaDoorCards
namespace Go.Proofs.YtmkohcchgnaboaaDoor.primeHonest
open Go.ChangeShapes Go.WideShapes Go.ChangeAt Go.RowKit
open Go.ChangeMaps (open_string shut_string)
set_option linter.unusedVariables false

theorem own : ownKnob Tryd.prog.godebug = none := by kernel_rfl
theorem laidOut : laidOutB Tryd.prog = true := by kernel_rfl

set_option maxHeartbeats 1600000 in
theorem walk (x0 : Int) (x1 : Int) (w : World) (h0 : (Lit.int .u64 x0).wf = true) (h1 : (Lit.int .u64 x1).wf = true) (hT : Tab w) :
    Calls Tryd.prog 3 #[.int .u64 x0, .int .u64 x1] w fun e w' => e = .returned (.bool true) ∧ Below w.heap.size w w' := by
  have h1' := word_of_wf h0
  have h2' := word_of_wf h1
  obtain ⟨a, rfl⟩ := Int.eq_ofNat_of_zero_le h1'.1
  obtain ⟨n, rfl⟩ := Int.eq_ofNat_of_zero_le h2'.1
  exact honest_walk (fun n w _ => is_any n w) (fun a n w hT ha _ => wit_any a n w hT ha) a n w hT (by omega) (by omega)

theorem tTab : (Tryd.prog.globals[0]?).map (·.type) = some 37 := by kernel_rfl
/-- The row lists the library's table, and nothing else. -/
theorem listed_tab : ∃ name, Rows.primeHonestRow.laid = [(name, Lib.tabData .u8 (Lib.deBruijn64tab.map fun n : Nat => (n : Int)))] ∧ Tryd.prog.globalNamed name = some 0 := ⟨_, rfl, by kernel_rfl⟩
theorem of_laid {W : World} (h : laidMetH Tryd.prog Rows.primeHonestRow.laid W) : Tab W := by
  obtain ⟨name, e, g⟩ := listed_tab
  rw [MakeChecks.laidMetH_plain _ _ _ (by kernel_rfl), e] at h
  have hT := Lib.tabIs_of_head g tTab Tryd.underlying37 Tryd.underlying5 (by kernel_rfl) (by kernel_rfl) h
  intro j hj
  have hc := hT.cell g j (by simpa using hj)
  simpa [List.getD, hj] using hc
theorem door_met (os : Os) (args : Array Value) : laidMetH Tryd.prog Rows.primeHonestRow.laid ((World.doorLaid Tryd.prog 14 os).forCall (fun _ _ => 0) ⟨#[], args, []⟩).memory :=
  laidMetH_of_parts3 (fuel := 8) (laidMet_of_run' 8 (by kernel_rfl) (by kernel_rfl)) (by kernel_rfl) (by kernel_rfl)

set_option maxRecDepth 100000 in
theorem lifted (os : Os) (started : os.Started) (H : Type) (enc : TypeId × Value → H) :
    ReturnsInHanded {} Tryd.checked os 3 .any (fun w args => (Rows.primeHonestSpec.pre enc Tryd.prog Tryd.f3 [] false w args ∧ laidMetH Tryd.prog Rows.primeHonestRow.laid w) ∧ sizedMet enc Tryd.prog Tryd.f3 (OpenSpec.ofChange Rows.primeHonestSpec) false w args)
      (Rows.primeHonestSpec.post enc Tryd.prog Tryd.f3 false true false false) := by
  refine returnsInHanded_of_change_and (C := Tryd.checked) (X := fun w _ => laidMetH Tryd.prog Rows.primeHonestRow.laid w) (fun _ _ _ hh h => h.of_heap hh) own started (by kernel_rfl) Tryd.func3
    (ChangeSpec.witness_shaped (enc := enc) (C := Tryd.checked) (os := os) (X := fun w _ => laidMetH Tryd.prog Rows.primeHonestRow.laid w) false (World.doorLaid Tryd.prog 14 os) #[.int .u64 0, .int .u64 0] 8 rfl (World.shaped_of_RefB (by kernel_rfl) (by kernel_rfl)) (by kernel_rfl) (by kernel_rfl) (by kernel_rfl) (door_met os _)) ?_
  intro W base args ds gs before hval0 hW _ _ hL _
  have hval : ∀ (j : Nat) t v, Tryd.f3.params[j]? = some t → args[j]? = some v → Value.okWide Tryd.prog W .any base t v := hval0
  have hW' := hW
  obtain ⟨p, q, hA0, hV, rfl, hfz, hnd⟩ := hW
  have hA : DataW.TrodAll enc Tryd.prog W 0 (fun _ => true) true Tryd.f3.params.toList args.toList ds p := hA0
  rw [Tryd.params3] at hA hval
  obtain ⟨v0, vs0, d0, ds0, p0, q0, hargs, rfl, rfl, h0, r0⟩ := trodAll_cons hA
  obtain ⟨v1, vs1, d1, ds1, p1, q1, rfl, rfl, rfl, h1, r1⟩ := trodAll_cons r0
  obtain ⟨rfl, rfl, rfl⟩ := trodAll_nil r1
  obtain rfl : args = #[v0, v1] := by cases args; simp_all
  obtain ⟨rfl, rfl⟩ := trodVars_none hV
  have k0 := h0
  have lt0 : ∀ x ∈ p0, x.block < W.heap.size := by obtain ⟨m, hm⟩ := k0; exact DataW.trod_lt m _ _ _ hm
  obtain ⟨x0, hv0, -, -, i0⟩ := open_int Tryd.underlying22 (hval 0 22 v0 rfl rfl) h0
  subst hv0
  have k1 := h1
  have lt1 : ∀ x ∈ p1, x.block < W.heap.size := by obtain ⟨m, hm⟩ := k1; exact DataW.trod_lt m _ _ _ hm
  obtain ⟨x1, hv1, -, -, i1⟩ := open_int Tryd.underlying22 (hval 1 22 v1 rfl rfl) h1
  subst hv1
  clear hA0 hval0
  refine (walk x0 x1 W i0 i1 (of_laid hL)).mono fun e W' ⟨he, bel⟩ => ?_
  subst he
  exact ⟨_, rfl, _, _, _, [], _, [], hW', trodAll_mk1 (shut_bool Tryd.underlying4 _), (trodAll_cons_mk (Below.trod laidOut (by kernel_rfl) (of_decide_eq_true (by kernel_rfl)) k0 bel lt0) (trodAll_cons_mk (Below.trod laidOut (by kernel_rfl) (of_decide_eq_true (by kernel_rfl)) k1 bel lt1) trodAll_mk0)), rfl, bel.frame _, fun h => by cases h⟩

theorem over : Rows.primeHonestRow.holds Tryd.pinned (OpenSpec.ofChange Rows.primeHonestSpec) :=
  OpenClaim.holds_of_wide 3 Tryd.f3 rfl rfl rfl rfl rfl rfl rfl ⟨rfl, rfl, rfl, rfl, rfl⟩ rfl rfl rfl rfl rfl (by kernel_rfl) Tryd.func3 (by kernel_rfl)
    (of_decide_eq_true (by kernel_rfl)) (by unfold Func.isWrapper; first | (rw [if_pos (by decide +kernel)]; kernel_rfl) | (rw [if_neg (by decide +kernel)]; exact ⟨rfl, rfl⟩))
    (fun os started H enc _ => lifted os started H enc)

theorem row_holds : Rows.PrimeHonestSaid := over

theorem card : Rows.PrimeHonestCardSaid :=
  Claim7.holds_tied_plain_at .later [] [.data] true (true, "ee5c3eba81403546df5c7ac3d514bb0b3efe429bc6f2fdec03be2d6a8c1c0fc9") false
    row_holds (fun _ h => by cases h) (by kernel_rfl) (fun _ h => by cases h) primeHonest_row_tie rfl ⟨rfl, rfl⟩ (by kernel_rfl) rfl
    (fun f fn hf hfn => by
      obtain rfl : f = 3 := Option.some.inj ((show Tryd.prog.funcNamed Rows.primeHonestRow.func = some 3 by kernel_rfl).symm.trans hf) |>.symm
      obtain rfl : fn = Tryd.f3 := (Option.some.inj (Tryd.func3.symm.trans hfn)).symm
      exact ⟨by kernel_rfl, fun j t ht => by
        rw [Tryd.params3] at ht
        have h3 : t = 22 := by
          rcases j with _ | _ | j
          · simpa using ht.symm
          · simpa using ht.symm
          · simp at ht
        subst h3
        exact (show Tryd.prog.wantsStandIn 22 = false by kernel_rfl)⟩)
    (by kernel_rfl)
end Go.Proofs.YtmkohcchgnaboaaDoor.primeHonest
namespace Go.Proofs.YtmkohcchgnaboaaDoor
theorem primeHonest_holds : Rows.PrimeHonestCardSaid := primeHonest.card
#print axioms primeHonest_holds
end Go.Proofs.YtmkohcchgnaboaaDoor

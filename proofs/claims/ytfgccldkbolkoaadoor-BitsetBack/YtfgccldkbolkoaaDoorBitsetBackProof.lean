/-
  The statement BitsetBack holds of the code at the commit that is named beside it, for every input.
-/
import Derived.Test.YtfgccldkbolkoaaDoorRows
import Derived.Test.YtfgccldkbolkoaaDoorP14Open
import Derived.Test.YtfgccldkbolkoaaDoorP14B
import Derived.Test.YtfgccldkbolkoaaDoorX14Y
import Derived.Test.YtfgccldkbolkoaaDoorX14Z
import Derived.Lib.SmallJoins
import Derived.WalkKit
import Derived.ProofKit
import Derived.OpenShut
import Derived.ShutString
import Derived.ChangeOld
import Derived.Below
import Derived.Deep.Cut
import Derived.Deep.DeepCutAuto
import Derived.Deep.RegionWith
import Derived.BigRegion
import Derived.LaidMore
import Derived.Stop.Joined
import Derived.Lib.LaidTab
import Derived.SevenTiedAt
import Derived.Test.YtfgccldkbolkoaaDoorTie
import Derived.Test.YtfgccldkbolkoaaDoorCards
namespace Go.Proofs.YtfgccldkbolkoaaDoor.bitsetBack
open Go.ChangeShapes Go.WideShapes Go.ChangeAt Go.RowKit
open Go.ChangeMaps (open_string shut_string)
set_option linter.unusedVariables false

theorem own : ownKnob Tryd.prog.godebug = none := by kernel_rfl
theorem laidOut : laidOutB Tryd.prog = true := by kernel_rfl

set_option maxHeartbeats 1600000 in
theorem walk (x0 : Int) (a0 : Option Addr) (len0 cap0 : Nat) (z0 : List Int) (w : World) (h0 : (Lit.int .i64 x0).wf = true) (w0 : IsRow .u64 w a0 len0 cap0 z0) (hT : TzTab w) :
    Calls Tryd.prog 4 #[.agg #[.int .i64 x0, .slice a0 len0 cap0]] w fun e w' => e = .returned (.bool true) ∧ Below w.heap.size w w' := by
  exact back14_walk tab_ok14 lst_ok14 of_ok14 cnt_ok14 x0 a0 len0 cap0 _ w (int_of_wf12 h0) (Nums.of_row w0) hT

theorem tTab : (Tryd.prog.globals[0]?).map (·.type) = some 43 := by kernel_rfl
/-- The row lists the library's table, and nothing else. -/
theorem listed_tab : ∃ name, Rows.bitsetBackRow.laid = [(name, Lib.tabData .u8 (Lib.deBruijn64tab.map fun n : Nat => (n : Int)))] ∧ Tryd.prog.globalNamed name = some 0 := ⟨_, rfl, by kernel_rfl⟩
theorem of_laid {W : World} (h : laidMetH Tryd.prog Rows.bitsetBackRow.laid W) : TzTab W := by
  obtain ⟨name, e, g⟩ := listed_tab
  rw [MakeChecks.laidMetH_plain _ _ _ (by kernel_rfl), e] at h
  have hT := Lib.tabIs_of_head g tTab Tryd.underlying43 Tryd.underlying5 (by kernel_rfl) (by kernel_rfl) h
  intro j hj
  have hc := hT.cell g j (by simpa using hj)
  simpa [List.getD, hj] using hc
theorem door_met (os : Os) (args : Array Value) : laidMetH Tryd.prog Rows.bitsetBackRow.laid ((World.doorLaid Tryd.prog 14 os).forCall (fun _ _ => 0) ⟨#[], args, []⟩).memory :=
  laidMetH_of_parts3 (fuel := 8) (laidMet_of_run' 8 (by kernel_rfl) (by kernel_rfl)) (by kernel_rfl) (by kernel_rfl)

set_option maxRecDepth 100000 in
theorem lifted (os : Os) (started : os.Started) (H : Type) (enc : TypeId × Value → H) :
    ReturnsInHanded {} Tryd.checked os 4 .any (fun w args => (Rows.bitsetBackSpec.pre enc Tryd.prog Tryd.f4 [] false w args ∧ laidMetH Tryd.prog Rows.bitsetBackRow.laid w) ∧ sizedMet enc Tryd.prog Tryd.f4 (OpenSpec.ofChange Rows.bitsetBackSpec) false w args)
      (Rows.bitsetBackSpec.post enc Tryd.prog Tryd.f4 false true false false) := by
  refine returnsInHanded_of_change_and (C := Tryd.checked) (X := fun w _ => laidMetH Tryd.prog Rows.bitsetBackRow.laid w) (fun _ _ _ hh h => h.of_heap hh) own started (by kernel_rfl) Tryd.func4
    (ChangeSpec.witness_shaped (enc := enc) (C := Tryd.checked) (os := os) (X := fun w _ => laidMetH Tryd.prog Rows.bitsetBackRow.laid w) false (World.doorLaid Tryd.prog 14 os) #[.agg #[.int .i64 0, .slice none 0 0]] 8 rfl (World.shaped_of_RefB (by kernel_rfl) (by kernel_rfl)) (by kernel_rfl) (by kernel_rfl) (by kernel_rfl) (door_met os _)) ?_
  intro W base args ds gs before hval0 hW _ _ hL _
  have hval : ∀ (j : Nat) t v, Tryd.f4.params[j]? = some t → args[j]? = some v → Value.okWide Tryd.prog W .any base t v := hval0
  have hW' := hW
  obtain ⟨p, q, hA0, hV, rfl, hfz, hnd⟩ := hW
  have hA : DataW.TrodAll enc Tryd.prog W 0 (fun _ => true) true Tryd.f4.params.toList args.toList ds p := hA0
  rw [Tryd.params4] at hA hval
  obtain ⟨v0, vs0, d0, ds0, p0, q0, hargs, rfl, rfl, h0, r0⟩ := trodAll_cons hA
  obtain ⟨rfl, rfl, rfl⟩ := trodAll_nil r0
  obtain rfl : args = #[v0] := by cases args; simp_all
  obtain ⟨rfl, rfl⟩ := trodVars_none hV
  have k0 := h0
  have lt0 : ∀ x ∈ p0, x.block < W.heap.size := by obtain ⟨m, hm⟩ := k0; exact DataW.trod_lt m _ _ _ hm
  obtain ⟨x0, a0, len0, cap0, z0, hv0, i0, w0⟩ := open_bits14 (hval 0 24 v0 rfl rfl) h0
  subst hv0
  clear hA0 hval0
  refine (walk x0 a0 len0 cap0 z0 W i0 w0 (of_laid hL)).mono fun e W' ⟨he, bel⟩ => ?_
  subst he
  exact ⟨_, rfl, _, _, _, [], _, [], hW', trodAll_mk1 (shut_bool Tryd.underlying4 _), (trodAll_cons_mk (Below.trod laidOut (by kernel_rfl) (of_decide_eq_true (by kernel_rfl)) k0 bel lt0) trodAll_mk0), rfl, bel.frame _, fun h => by cases h⟩

theorem over : Rows.bitsetBackRow.holds Tryd.pinned (OpenSpec.ofChange Rows.bitsetBackSpec) :=
  OpenClaim.holds_of_wide 4 Tryd.f4 rfl rfl rfl rfl rfl rfl rfl ⟨rfl, rfl, rfl, rfl, rfl⟩ rfl rfl rfl rfl rfl (by kernel_rfl) Tryd.func4 (by kernel_rfl)
    (of_decide_eq_true (by kernel_rfl)) (by unfold Func.isWrapper; first | (rw [if_pos (by decide +kernel)]; kernel_rfl) | (rw [if_neg (by decide +kernel)]; exact ⟨rfl, rfl⟩))
    (fun os started H enc _ => lifted os started H enc)

theorem row_holds : Rows.BitsetBackSaid := over

theorem card : Rows.BitsetBackCardSaid :=
  Claim7.holds_tied_plain_at .later [] [.data] true (true, "897440cffa4f1bdf332ab855d005e3716c39471c772d08b3e500619627f3b140") false
    row_holds (fun _ h => by cases h) (by kernel_rfl) (fun _ h => by cases h) bitsetBack_row_tie rfl ⟨rfl, rfl⟩ (by kernel_rfl) rfl
    (fun f fn hf hfn => by
      obtain rfl : f = 4 := Option.some.inj ((show Tryd.prog.funcNamed Rows.bitsetBackRow.func = some 4 by kernel_rfl).symm.trans hf) |>.symm
      obtain rfl : fn = Tryd.f4 := (Option.some.inj (Tryd.func4.symm.trans hfn)).symm
      exact ⟨by kernel_rfl, fun j t ht => by
        rw [Tryd.params4] at ht
        rcases j with _ | j
        · obtain rfl : t = 24 := by simpa using ht.symm
          exact (show Tryd.prog.wantsStandIn 24 = false by kernel_rfl)
        · simp at ht⟩)
    (by kernel_rfl)
end Go.Proofs.YtfgccldkbolkoaaDoor.bitsetBack
namespace Go.Proofs.YtfgccldkbolkoaaDoor
theorem bitsetBack_holds : Rows.BitsetBackCardSaid := bitsetBack.card
#print axioms bitsetBack_holds
end Go.Proofs.YtfgccldkbolkoaaDoor

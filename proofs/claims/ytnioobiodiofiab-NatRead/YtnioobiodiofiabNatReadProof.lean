/-
  The statement NatRead holds of the code at the commit that is named beside it, for every input.
-/
import Derived.Test.YtnioobiodiofiabRows
import Derived.Test.YtnioobiodiofiabTextP
import Derived.WalkKit
import Derived.ProofKit
import Derived.OpenShut
import Derived.ShutString
import Derived.ChangeOld
import Derived.Below
namespace Go.Proofs.Ytnioobiodiofiab.natRead
open Go.ChangeShapes Go.WideShapes Go.ChangeAt Go.RowKit
open Go.ChangeMaps (open_string shut_string)
set_option linter.unusedVariables false

theorem own : ownKnob Try.prog.godebug = none := by kernel_rfl
theorem laidOut : laidOutB Try.prog = true := by kernel_rfl

set_option maxHeartbeats 1600000 in
theorem walk (a0 : Option Addr) (len0 cap0 : Nat) (z0 : List Int) (w : World) (w0 : IsRow .u64 w a0 len0 cap0 z0) :
    Calls Try.prog 6 #[.slice a0 len0 cap0] w fun e w' => e = .returned (.bool true) ∧ Below w.heap.size w w' := by
  have H0 := Nums.of_row w0
  generalize z0.take len0 = zs at H0
  clear w0
  cases hr : rightB zs with
  | false =>
    go_enter Try.func6, Try.ntmps6
    go_wp2_with fail
    refine (refRight_any _ _ _ _ _ H0).mono ?_
    rintro e v ⟨rfl, rfl⟩
    rw [hr]
    go_wp2
    go_ret
    exact ⟨rfl, Below.refl _ _⟩
  | true =>
    have hzd := H0.digs
    go_enter Try.func6, Try.ntmps6
    go_wp2_with fail
    refine (refRight_any _ _ _ _ _ H0).mono ?_
    rintro e v0 ⟨rfl, rfl⟩
    rw [hr]
    go_wp2_with fail
    refine (bytes_any _ _ _ _ _ H0).mono ?_
    rintro e v1 ⟨xn, xs, rfl, X1, hxr, -, hb1⟩
    have HX : Hid (ResBytes zs xs) := hxr
    have A1 := H0.below hb1
    clear hxr H0
    go_wp2_with fail
    refine (read_any _ _ _ _ _ X1).mono ?_
    rintro e v2 ⟨ya, yn, yc, ys, ye, rfl, Y2, hyr, hb2⟩
    obtain ⟨e1, e2⟩ := read_back hzd hr HX.out hyr
    subst e1
    subst e2
    have A2 := A1.below hb2
    have B2 := hb1.trans (hb2.mono hb1.size)
    clear hyr HX hb1 hb2 A1 X1
    go_wp2_with fail
    refine (text_any _ _ _ _ _ A2).mono ?_
    rintro e v3 ⟨S, rfl, hS, hsz, hb3⟩
    have HS : Hid (ResText ys S) := hS
    have A3 := A2.below hb3
    have Y3 := Y2.below hb3
    have B3 := B2.trans (hb3.mono B2.size)
    clear hS hb3 A2 Y2 B2
    go_wp2_with fail
    refine (parse_any S _ (by unfold maxLen; omega)).mono ?_
    rintro e v4 ⟨pa, pn, pc, ps, pe, rfl, P4, hpr, hb4⟩
    obtain ⟨e1, e2⟩ := parse_back hzd hr HS.out hpr
    subst e1
    subst e2
    have A4 := A3.below hb4
    have Y4 := Y3.below hb4
    have B4 := B3.trans (hb4.mono B3.size)
    clear hpr HS hb4 A3 Y3 B3 hsz
    go_wp2_with fail
    refine (same_any _ _ _ _ _ _ _ _ _ Y4 A4).mono ?_
    rintro e v5 ⟨rfl, hb5⟩
    rw [sameB_self]
    have A5 := A4.below hb5
    have P5 := P4.below hb5
    have B5 := B4.trans (hb5.mono B4.size)
    clear hb5 A4 Y4 P4 B4
    go_wp2_with fail
    refine (same_any _ _ _ _ _ _ _ _ _ P5 A5).mono ?_
    rintro e v6 ⟨rfl, hb6⟩
    rw [sameB_self]
    have L6 := Nums.lit1 v6 1 (by omega) 40
    have B6 := B5.trans (hb6.mono B5.size)
    have B6' := B6.alloc B6.size (.cells #[.int .u64 1] 40)
    clear hb6 A5 P5 B5 B6
    go_wp2_with fail
    refine (text_any _ _ _ [1] _ L6).mono ?_
    rintro e v7 ⟨T, rfl, hT, -, hb7⟩
    obtain rfl := text_one hT
    have B7 := B6'.trans (hb7.mono B6'.size)
    clear hT hb7 B6' L6
    go_wp2
    go_ret
    exact ⟨by simp, B7⟩

set_option maxRecDepth 100000 in
theorem lifted (os : Os) (started : os.Started) (H : Type) (enc : TypeId × Value → H) :
    ReturnsInHanded {} Try.checked os 6 .any (Rows.natReadSpec.pre6 enc Try.prog Try.f6 Rows.natReadRow.domain false) (Rows.natReadSpec.post enc Try.prog Try.f6 false true false false) := by
  refine returnsInHanded_of_change (C := Try.checked) own started (by kernel_rfl) Try.func6
    (ChangeSpec.witness6 (enc := enc) (C := Try.checked) false ⟨#[], #[.slice none 0 0], []⟩ 8 (by kernel_rfl) (by kernel_rfl) (by kernel_rfl) (by kernel_rfl)) ?_
  intro W base args ds gs before hval0 hW hcnd _
  have hval : ∀ (j : Nat) t v, Try.f6.params[j]? = some t → args[j]? = some v → Value.okWide Try.prog W .any base t v := hval0
  have hW' := hW
  obtain ⟨p, q, hA0, hV, rfl, hfz, hnd⟩ := hW
  have hA : DataW.TrodAll enc Try.prog W 0 (fun _ => true) true Try.f6.params.toList args.toList ds p := hA0
  rw [Try.params6] at hA hval
  obtain ⟨v0, vs0, d0, ds0, p0, q0, hargs, rfl, rfl, h0, r0⟩ := trodAll_cons hA
  obtain ⟨rfl, rfl, rfl⟩ := trodAll_nil r0
  obtain rfl : args = #[v0] := by cases args; simp_all
  obtain ⟨rfl, rfl⟩ := trodVars_none hV
  obtain ⟨a0, len0, cap0, rfl⟩ := okWide_slice Try.underlying23 (hval 0 23 v0 rfl rfl)
  have k0 := h0
  have lt0 : ∀ x ∈ p0, x.block < W.heap.size := by obtain ⟨m, hm⟩ := k0; exact DataW.trod_lt m _ _ _ hm
  obtain ⟨z0, w0⟩ : ∃ zs, IsRow .u64 W a0 len0 cap0 zs := by
    obtain ⟨fuel, hf⟩ := h0
    rcases open_ints Try.underlying23 Try.underlying40 (by kernel_rfl) hf with ⟨hcs, _⟩ | ⟨x, l, c, zs, hcs, _, hl, hm, hz, _, hcell, hwz⟩
    · simp [Value.cells] at hcs
      obtain ⟨rfl, rfl, rfl⟩ := hcs
      exact ⟨[], .inl ⟨rfl, rfl, rfl, rfl⟩⟩
    · simp [Value.cells] at hcs
      obtain ⟨rfl, rfl, rfl⟩ := hcs
      exact ⟨zs, .inr ⟨_, rfl, hl, hm, by simpa using hz, hcell, hwz⟩⟩
  clear hA0 hval0
  refine (walk a0 len0 cap0 z0 W w0).mono fun e W' ⟨he, bel⟩ => ?_
  subst he
  exact ⟨_, rfl, _, _, _, [], _, [], hW', trodAll_mk1 (shut_bool Try.underlying4 _), (trodAll_cons_mk (Below.trod laidOut (by kernel_rfl) (of_decide_eq_true (by kernel_rfl)) k0 bel lt0) trodAll_mk0), rfl, bel.frame _, fun h => by cases h⟩

theorem over : Rows.natReadRow.holds Try.pinned (OpenSpec.ofChange Rows.natReadSpec) :=
  OpenClaim.holds_of_wide 6 Try.f6 rfl rfl rfl rfl rfl rfl rfl ⟨rfl, rfl, rfl, rfl, rfl⟩ rfl rfl rfl rfl rfl (by kernel_rfl) Try.func6 (by kernel_rfl)
    (of_decide_eq_true (by kernel_rfl)) (by unfold Func.isWrapper; first | (rw [if_pos (by decide +kernel)]; kernel_rfl) | (rw [if_neg (by decide +kernel)]; exact ⟨rfl, rfl⟩))
    (fun os started H enc _ => lifted os started H enc)

theorem proved : Rows.NatReadSaid := over
end Go.Proofs.Ytnioobiodiofiab.natRead
namespace Go.Proofs.Ytnioobiodiofiab
theorem natRead_holds : Rows.NatReadSaid := natRead.proved
#print axioms natRead_holds
end Go.Proofs.Ytnioobiodiofiab

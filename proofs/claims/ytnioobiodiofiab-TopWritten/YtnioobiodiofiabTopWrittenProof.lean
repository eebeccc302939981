/-
  The statement TopWritten holds of the code at the commit that is named beside it, for every input.
-/
import Derived.Test.YtnioobiodiofiabRows
import Derived.Test.YtnioobiodiofiabTextP
import Derived.WalkKit
import Derived.ProofKit
import Derived.OpenShut
import Derived.ShutString
import Derived.ChangeOld
import Derived.Below
namespace Go.Proofs.Ytnioobiodiofiab.topWritten
open Go.ChangeShapes Go.WideShapes Go.ChangeAt Go.RowKit
open Go.ChangeMaps (open_string shut_string)
set_option linter.unusedVariables false

theorem own : ownKnob Try.prog.godebug = none := by kernel_rfl
theorem laidOut : laidOutB Try.prog = true := by kernel_rfl

set_option maxHeartbeats 1600000 in
theorem walk (a0 : Option Addr) (len0 cap0 : Nat) (z0 : List Int) (w : World) (w0 : IsRow .u64 w a0 len0 cap0 z0) :
    Calls Try.prog 7 #[.slice a0 len0 cap0] w fun e w' => e = .returned (.bool true) ∧ Below w.heap.size w w' := by
  have H0 := Nums.of_row w0
  generalize z0.take len0 = zs at H0
  clear w0
  have hzl := H0.hlen
  cases hr : rightB zs with
  | false =>
    clear hzl
    go_enter Try.func7, Try.ntmps7
    go_wp2_with fail
    refine (refRight_any _ _ _ _ _ H0).mono ?_
    rintro e v ⟨rfl, rfl⟩
    rw [hr]
    go_wp2
    go_ret
    exact ⟨rfl, Below.refl _ _⟩
  | true =>
  have hl64 := right_len hr
  by_cases h30 : len0 ≤ 30
  · by_cases hz0 : len0 = 0
    · subst hz0
      clear hzl hl64
      go_enter Try.func7, Try.ntmps7
      go_wp2_with fail
      refine (refRight_any _ _ _ _ _ H0).mono ?_
      rintro e v ⟨rfl, rfl⟩
      rw [hr]
      go_wp2
      go_ret
      exact ⟨rfl, Below.refl _ _⟩
    · have hzd := H0.digs
      have HP : Hid (val 18446744073709551616 zs * val 18446744073709551616 zs < 18446744073709551616 ^ 64 ∧ zs.length ≠ 0) := by
        have h1 := val_lt_pow (B := 18446744073709551616) (by decide) hzd (show zs.length ≤ 30 by omega)
        have h2 := val_nonneg (B := 18446744073709551616) (by decide) hzd
        have h3 : val 18446744073709551616 zs * val 18446744073709551616 zs ≤ 18446744073709551616 ^ 30 * 18446744073709551616 ^ 30 := Int.mul_le_mul (by omega) (by omega) h2 (by decide)
        have h4 : (18446744073709551616 : Int) ^ 30 * 18446744073709551616 ^ 30 < 18446744073709551616 ^ 64 := by decide
        exact ⟨by omega, by omega⟩
      have hd30 : decide ((30 : Int) < (len0 : Int)) = false := by simp; omega
      have hd0 : ((len0 : Int) == 0) = false := by simp; omega
      clear hzl hl64
      go_enter Try.func7, Try.ntmps7
      go_wp2_with fail
      refine (refRight_any _ _ _ _ _ H0).mono ?_
      rintro e v0 ⟨rfl, rfl⟩
      rw [hr]
      go_wp2_with fail
      refine (text_any _ _ _ _ _ H0).mono ?_
      rintro e v1 ⟨S, rfl, hS, hsz, hb1⟩
      have HS : Hid (ResText zs S) := hS
      have A1 := H0.below hb1
      clear hS H0
      go_wp2_with fail
      refine (parse_any S _ (by unfold maxLen; omega)).mono ?_
      rintro e v2 ⟨pa, pn, pc, ps, pe, rfl, P2, hpr, hb2⟩
      obtain ⟨e1, e2⟩ := parse_back hzd hr HS.out hpr
      subst e1
      subst e2
      have A2 := A1.below hb2
      have B2 := hb1.trans (hb2.mono hb1.size)
      clear hpr HS hb1 hb2 A1 hsz
      go_wp2_with fail
      refine (bytes_any _ _ _ _ _ A2).mono ?_
      rintro e v3 ⟨xn, xs, rfl, X3, hxr, -, hb3⟩
      have HX : Hid (ResBytes ps xs) := hxr
      have A3 := A2.below hb3
      have P3 := P2.below hb3
      have B3 := B2.trans (hb3.mono B2.size)
      clear hxr hb3 A2 P2 B2
      go_wp2_with fail
      refine (read_any _ _ _ _ _ X3).mono ?_
      rintro e v4 ⟨ya, yn, yc, ys, ye, rfl, Y4, hyr, hb4⟩
      obtain ⟨e1, e2⟩ := read_back hzd hr HX.out hyr
      subst e1
      subst e2
      have A4 := A3.below hb4
      have P4 := P3.below hb4
      have B4 := B3.trans (hb4.mono B3.size)
      clear hyr HX hb4 A3 P3 B3 X3
      go_wp2_with fail
      refine (mul_any _ _ _ _ _ _ _ _ _ P4 Y4).mono ?_
      rintro e v5 ⟨ma, mn, mc, ms, me, rfl, M5, hmr, -, hb5⟩
      have hm2 : me = 0 ∧ Digs 18446744073709551616 ms ∧ rightB ms = true ∧ val 18446744073709551616 ms = val 18446744073709551616 ys * val 18446744073709551616 ys := by
        have := hmr
        unfold Res2 at this
        rw [hr, if_pos (show (true && true) = true from rfl)] at this
        exact res_fits this HP.out.1
      obtain ⟨rfl, hmd, hmright, hmv⟩ := hm2
      have HM : Hid (val 18446744073709551616 ms = val 18446744073709551616 ys * val 18446744073709551616 ys) := hmv
      have A5 := A4.below hb5
      have B5 := B4.trans (hb5.mono B4.size)
      clear hmr hmv hb5 A4 P4 Y4 B4
      go_wp2_with fail
      refine (div_any _ _ _ _ _ _ _ _ _ M5 A5).mono ?_
      rintro e v6 ⟨qa, qn, qc, qs, ra, rn, rc, rs, re, rfl, Q6, R6, hdr, -, -, -, hb6⟩
      obtain ⟨e1, e2, e3⟩ := top_div hzd hr HP.out.2 hmright HM.out hdr
      subst e1
      subst e3
      have hrn : rn = 0 := by have := R6.hlen; omega
      subst hrn
      have A6 := A5.below hb6
      have B6 := B5.trans (hb6.mono B5.size)
      clear hdr HM e2 hb6 A5 M5 B5 R6
      go_wp2_with fail
      refine (same_any _ _ _ _ _ _ _ _ _ Q6 A6).mono ?_
      rintro e v7 ⟨rfl, hb7⟩
      rw [sameB_self]
      have B7 := B6.trans (hb7.mono B6.size)
      clear hb7 B6 Q6 A6
      go_wp2_with fail
      go_ret
      exact ⟨by simp, B7⟩
  · have hd30 : (30 : Int) < (len0 : Int) := by omega
    clear hzl hl64
    go_enter Try.func7, Try.ntmps7
    go_wp2_with fail
    refine (refRight_any _ _ _ _ _ H0).mono ?_
    rintro e v ⟨rfl, rfl⟩
    rw [hr]
    go_wp2
    go_ret
    exact ⟨rfl, Below.refl _ _⟩

set_option maxRecDepth 100000 in
theorem lifted (os : Os) (started : os.Started) (H : Type) (enc : TypeId × Value → H) :
    ReturnsInHanded {} Try.checked os 7 .any (Rows.topWrittenSpec.pre6 enc Try.prog Try.f7 Rows.topWrittenRow.domain false) (Rows.topWrittenSpec.post enc Try.prog Try.f7 false true false false) := by
  refine returnsInHanded_of_change (C := Try.checked) own started (by kernel_rfl) Try.func7
    (ChangeSpec.witness6 (enc := enc) (C := Try.checked) false ⟨#[], #[.slice none 0 0], []⟩ 8 (by kernel_rfl) (by kernel_rfl) (by kernel_rfl) (by kernel_rfl)) ?_
  intro W base args ds gs before hval0 hW hcnd _
  have hval : ∀ (j : Nat) t v, Try.f7.params[j]? = some t → args[j]? = some v → Value.okWide Try.prog W .any base t v := hval0
  have hW' := hW
  obtain ⟨p, q, hA0, hV, rfl, hfz, hnd⟩ := hW
  have hA : DataW.TrodAll enc Try.prog W 0 (fun _ => true) true Try.f7.params.toList args.toList ds p := hA0
  rw [Try.params7] at hA hval
  obtain ⟨v0, vs0, d0, ds0, p0, q0, hargs, rfl, rfl, h0, r0⟩ := trodAll_cons hA
  obtain ⟨rfl, rfl, rfl⟩ := trodAll_nil r0
  obtain rfl : args = #[v0] := by cases args; simp_all
  obtain ⟨rfl, rfl⟩ := trodVars_none hV
  obtain ⟨a0, len0, cap0, rfl⟩ := okWide_slice Try.underlying23 (hval 0 23 v0 rfl rfl)
  have k0 := h0
  have lt0 : ∀ x ∈ p0, x.block < W.heap.size := by obtain ⟨m, hm⟩ := k0; exact DataW.trod_lt m _ _ _ hm
  obtain ⟨z0, w0⟩ : ∃ zs, IsRow .u64 W a0 len0 cap0 zs := by
    obtain ⟨fuel, hf⟩ := h0
    rcases open_ints Try.underlying23 Try.underlying40 (by kernel_rfl) hf with ⟨hcs, _⟩ | ⟨x, l, c, zs, hcs, _, hl, hm, hz, _, hcell, hwz⟩
    · simp [Value.cells] at hcs
      obtain ⟨rfl, rfl, rfl⟩ := hcs
      exact ⟨[], .inl ⟨rfl, rfl, rfl, rfl⟩⟩
    · simp [Value.cells] at hcs
      obtain ⟨rfl, rfl, rfl⟩ := hcs
      exact ⟨zs, .inr ⟨_, rfl, hl, hm, by simpa using hz, hcell, hwz⟩⟩
  clear hA0 hval0
  refine (walk a0 len0 cap0 z0 W w0).mono fun e W' ⟨he, bel⟩ => ?_
  subst he
  exact ⟨_, rfl, _, _, _, [], _, [], hW', trodAll_mk1 (shut_bool Try.underlying4 _), (trodAll_cons_mk (Below.trod laidOut (by kernel_rfl) (of_decide_eq_true (by kernel_rfl)) k0 bel lt0) trodAll_mk0), rfl, bel.frame _, fun h => by cases h⟩

theorem over : Rows.topWrittenRow.holds Try.pinned (OpenSpec.ofChange Rows.topWrittenSpec) :=
  OpenClaim.holds_of_wide 7 Try.f7 rfl rfl rfl rfl rfl rfl rfl ⟨rfl, rfl, rfl, rfl, rfl⟩ rfl rfl rfl rfl rfl (by kernel_rfl) Try.func7 (by kernel_rfl)
    (of_decide_eq_true (by kernel_rfl)) (by unfold Func.isWrapper; first | (rw [if_pos (by decide +kernel)]; kernel_rfl) | (rw [if_neg (by decide +kernel)]; exact ⟨rfl, rfl⟩))
    (fun os started H enc _ => lifted os started H enc)

theorem proved : Rows.TopWrittenSaid := over
end Go.Proofs.Ytnioobiodiofiab.topWritten
namespace Go.Proofs.Ytnioobiodiofiab
theorem topWritten_holds : Rows.TopWrittenSaid := topWritten.proved
#print axioms topWritten_holds
end Go.Proofs.Ytnioobiodiofiab

/-
  The statement GainBest holds of the code at the commit that is named beside it, for every input.
-/
import Derived.Test.YtchmlfjjgehbkaaGreatRows
import Derived.Test.YtchmlfjjgehbkaaGreatP17Open
import Derived.Test.YtchmlfjjgehbkaaGreatP17C
import Derived.Test.YtchmlfjjgehbkaaGreatX17G
import Derived.Lib.SmallJoins
import Derived.WalkKit
import Derived.ProofKit
import Derived.OpenShut
import Derived.ShutString
import Derived.ChangeOld
import Derived.Below
import Derived.Deep.Cut
import Derived.Deep.DeepCutAuto
import Derived.Deep.RegionWith
import Derived.BigRegion
namespace Go.Proofs.YtchmlfjjgehbkaaGreat.gainBest
open Go.ChangeShapes Go.WideShapes Go.ChangeAt Go.RowKit
open Go.ChangeMaps (open_string shut_string)
set_option linter.unusedVariables false

theorem own : ownKnob Tryz.prog.godebug = none := by kernel_rfl
theorem laidOut : laidOutB Tryz.prog = true := by kernel_rfl

set_option maxRecDepth 100000 in
theorem open_arrI2 {H : Type} {enc : TypeId × Value → H} {W : World} {base : Nat} {v : Value} {d : DataW H} {ps : List MemPlace} (hv : Value.okWide Tryz.prog W .any base 36 v) (h : DataW.Trod enc Tryz.prog W 0 (fun _ => true) true 36 v d ps) :
    ∃ y0 y1, v = .agg #[.int .i64 y0, .int .i64 y1] ∧ (Lit.int .i64 y0).wf = true ∧ (Lit.int .i64 y1).wf = true := by
  have hu : Tryz.prog.underlying 36 = some (.array 2 3) := Tryz.underlying36
  have hce : Tryz.prog.cellsOf 3 = 1 := by kernel_rfl
  have hca : Tryz.prog.cellsOf 36 = 2 := by kernel_rfl
  simp only [Value.okWide, hu] at hv
  obtain ⟨cs, rfl, hsz, _⟩ := hv
  rw [hca] at hsz
  obtain ⟨c0, c1, rfl⟩ : ∃ c0 c1, cs = #[c0, c1] := by
    obtain ⟨l⟩ := cs
    match l, hsz with
    | [c0, c1], _ => exact ⟨c0, c1, rfl⟩
  obtain ⟨fuel, hf⟩ := h
  obtain ⟨xs, m, _, _, _, hl, hx⟩ := DataW.trod_array hu hf
  have q0 := hx 0 (by decide)
  rw [hce] at q0
  obtain ⟨x0, e0⟩ : ∃ x0, xs[0]? = some x0 := ⟨_, List.getElem?_eq_getElem (by omega)⟩
  rw [e0] at q0
  have t0 : DataW.trod enc Tryz.prog W 0 (fun _ => true) true m 3 [c0] = some x0 := by simpa [Value.cells] using q0
  obtain ⟨y0, r0, _, f0⟩ := DataW.trod_int Tryz.underlying3 t0
  simp at r0
  subst r0
  have q1 := hx 1 (by decide)
  rw [hce] at q1
  obtain ⟨x1, e1⟩ : ∃ x1, xs[1]? = some x1 := ⟨_, List.getElem?_eq_getElem (by omega)⟩
  rw [e1] at q1
  have t1 : DataW.trod enc Tryz.prog W 0 (fun _ => true) true m 3 [c1] = some x1 := by simpa [Value.cells] using q1
  obtain ⟨y1, r1, _, f1⟩ := DataW.trod_int Tryz.underlying3 t1
  simp at r1
  subst r1
  exact ⟨y0, y1, rfl, f0, f1⟩

set_option maxHeartbeats 1600000 in
theorem walk (x0 x1 : Int) (x2 x3 : Int) (a0 : Option Addr) (len0 cap0 : Nat) (ss0 : List (Int × Int)) (w : World) (h0 : (Lit.int .i64 x0).wf = true) (h1 : (Lit.int .i64 x1).wf = true) (h2 : (Lit.int .i64 x2).wf = true) (h3 : (Lit.int .i64 x3).wf = true) (w0 : SRows w a0 len0 cap0 ss0) :
    Calls Tryz.prog 4 #[.agg #[.int .i64 x0, .int .i64 x1], .agg #[.int .i64 x2, .int .i64 x3], .slice a0 len0 cap0] w fun e w' => e = .returned (.bool true) ∧ Below w.heap.size w w' := by
  exact best17_walk sco_ok17 bes_ok17 x0 x1 x2 x3 a0 len0 cap0 ss0 w (int_of_wf12 h0) (int_of_wf12 h1) (int_of_wf12 h2) (int_of_wf12 h3) w0

set_option maxRecDepth 100000 in
theorem lifted (os : Os) (started : os.Started) (H : Type) (enc : TypeId × Value → H) :
    ReturnsInHanded {} Tryz.checked os 4 .any (Rows.gainBestSpec.pre6 enc Tryz.prog Tryz.f4 Rows.gainBestRow.domain false) (Rows.gainBestSpec.post enc Tryz.prog Tryz.f4 false true false false) := by
  refine returnsInHanded_of_change (C := Tryz.checked) own started (by kernel_rfl) Tryz.func4
    (ChangeSpec.witness6 (enc := enc) (C := Tryz.checked) false ⟨#[], #[.agg #[.int .i64 0, .int .i64 0], .agg #[.int .i64 0, .int .i64 0], .slice none 0 0], []⟩ 8 (by kernel_rfl) (by kernel_rfl) (by kernel_rfl) (by kernel_rfl)) ?_
  intro W base args ds gs before hval0 hW hcnd _
  have hval : ∀ (j : Nat) t v, Tryz.f4.params[j]? = some t → args[j]? = some v → Value.okWide Tryz.prog W .any base t v := hval0
  have hW' := hW
  obtain ⟨p, q, hA0, hV, rfl, hfz, hnd⟩ := hW
  have hA : DataW.TrodAll enc Tryz.prog W 0 (fun _ => true) true Tryz.f4.params.toList args.toList ds p := hA0
  rw [Tryz.params4] at hA hval
  obtain ⟨v0, vs0, d0, ds0, p0, q0, hargs, rfl, rfl, h0, r0⟩ := trodAll_cons hA
  obtain ⟨v1, vs1, d1, ds1, p1, q1, rfl, rfl, rfl, h1, r1⟩ := trodAll_cons r0
  obtain ⟨v2, vs2, d2, ds2, p2, q2, rfl, rfl, rfl, h2, r2⟩ := trodAll_cons r1
  obtain ⟨rfl, rfl, rfl⟩ := trodAll_nil r2
  obtain rfl : args = #[v0, v1, v2] := by cases args; simp_all
  obtain ⟨rfl, rfl⟩ := trodVars_none hV
  have k0 := h0
  have lt0 : ∀ x ∈ p0, x.block < W.heap.size := by obtain ⟨m, hm⟩ := k0; exact DataW.trod_lt m _ _ _ hm
  obtain ⟨x0, x1, hv0, i0, i1⟩ := open_arrI2 (hval 0 36 v0 rfl rfl) h0
  subst hv0
  have k1 := h1
  have lt1 : ∀ x ∈ p1, x.block < W.heap.size := by obtain ⟨m, hm⟩ := k1; exact DataW.trod_lt m _ _ _ hm
  obtain ⟨x2, x3, hv1, i2, i3⟩ := open_sum16 (hval 1 23 v1 rfl rfl) h1
  subst hv1
  obtain ⟨a0, len0, cap0, rfl⟩ := okWide_slice Tryz.underlying37 (hval 2 37 v2 rfl rfl)
  have k2 := h2
  have lt2 : ∀ x ∈ p2, x.block < W.heap.size := by obtain ⟨m, hm⟩ := k2; exact DataW.trod_lt m _ _ _ hm
  obtain ⟨ss0, w0⟩ : ∃ ns, SRows W a0 len0 cap0 ns := by
    obtain ⟨fuel, hf⟩ := h2
    obtain ⟨a, l, c, ns, e, hz⟩ := open_rows17 hf
    simp at e
    obtain ⟨rfl, rfl, rfl⟩ := e
    exact ⟨ns, hz⟩
  clear hA0 hval0
  refine (walk x0 x1 x2 x3 a0 len0 cap0 ss0 W i0 i1 i2 i3 w0).mono fun e W' ⟨he, bel⟩ => ?_
  subst he
  exact ⟨_, rfl, _, _, _, [], _, [], hW', trodAll_mk1 (shut_bool Tryz.underlying4 _), (trodAll_cons_mk (Below.trod laidOut (by kernel_rfl) (of_decide_eq_true (by kernel_rfl)) k0 bel lt0) (trodAll_cons_mk (Below.trod laidOut (by kernel_rfl) (of_decide_eq_true (by kernel_rfl)) k1 bel lt1) (trodAll_cons_mk (Below.trod laidOut (by kernel_rfl) (of_decide_eq_true (by kernel_rfl)) k2 bel lt2) trodAll_mk0))), rfl, bel.frame _, fun h => by cases h⟩

theorem over : Rows.gainBestRow.holds Tryz.pinned (OpenSpec.ofChange Rows.gainBestSpec) :=
  OpenClaim.holds_of_wide 4 Tryz.f4 rfl rfl rfl rfl rfl rfl rfl ⟨rfl, rfl, rfl, rfl, rfl⟩ rfl rfl rfl rfl rfl (by kernel_rfl) Tryz.func4 (by kernel_rfl)
    (of_decide_eq_true (by kernel_rfl)) (by unfold Func.isWrapper; first | (rw [if_pos (by decide +kernel)]; kernel_rfl) | (rw [if_neg (by decide +kernel)]; exact ⟨rfl, rfl⟩))
    (fun os started H enc _ => lifted os started H enc)

theorem proved : Rows.GainBestSaid := over
end Go.Proofs.YtchmlfjjgehbkaaGreat.gainBest
namespace Go.Proofs.YtchmlfjjgehbkaaGreat
theorem gainBest_holds : Rows.GainBestSaid := gainBest.proved
#print axioms gainBest_holds
end Go.Proofs.YtchmlfjjgehbkaaGreat

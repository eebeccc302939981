/-
  The statement ModintRights holds of the code at the commit that is named beside it, for every input.
-/
import Derived.Test.YtaipkganijofjaaRows
import Derived.Test.YtaipkganijofjaaWholeB
import Derived.Test.YtaipkganijofjaaFew3
import Derived.Test.YtaipkganijofjaaTwo
import Derived.Test.YtaipkganijofjaaClass
import Derived.Lib.SmallJoins
import Derived.WalkKit
import Derived.ProofKit
import Derived.OpenShut
import Derived.ShutString
import Derived.ChangeOld
import Derived.Below
import Derived.Deep.Cut
import Derived.Deep.DeepCutAuto
import Derived.Deep.RegionWith
import Derived.BigRegion
namespace Go.Proofs.Ytaipkganijofjaa.modintRights
open Go.ChangeShapes Go.WideShapes Go.ChangeAt Go.RowKit
open Go.ChangeMaps (open_string shut_string)
set_option linter.unusedVariables false

theorem own : ownKnob Try.prog.godebug = none := by kernel_rfl
theorem laidOut : laidOutB Try.prog = true := by kernel_rfl

theorem open_one {H : Type} {enc : TypeId × Value → H} {W : World} {m : Nat} {c : Value} {x : DataW H × List MemPlace} (hf : DataW.trod enc Try.prog W 0 (fun _ => true) true m 23 [c] = some x) : ∃ a len cap zs, c = .slice a len cap ∧ IsRow .u64 W a len cap zs := by
  rcases open_ints Try.underlying23 Try.underlying36 (by kernel_rfl) hf with ⟨hcs, _⟩ | ⟨x, l, c, zs, hcs, _, hl, hm, hz, _, hcell, hwz⟩
  · simp at hcs
    exact ⟨none, 0, 0, [], hcs, .inl ⟨rfl, rfl, rfl, rfl⟩⟩
  · simp at hcs
    exact ⟨_, _, _, zs, hcs, .inr ⟨_, rfl, hl, hm, by simpa using hz, hcell, hwz⟩⟩

theorem open_whole {H : Type} {enc : TypeId × Value → H} {W : World} {base : Nat} {v : Value} {d : DataW H} {ps : List MemPlace} (hv : Value.okWide Try.prog W .any base 25 v) (h : DataW.Trod enc Try.prog W 0 (fun _ => true) true 25 v d ps) :
    ∃ n a len cap zs, v = .agg #[.bool n, .slice a len cap] ∧ IsRow .u64 W a len cap zs := by
  obtain ⟨v0, v1, y0, y1, m, rfl, _, _, t0, t1⟩ := Go.Joins.open_agg2 Try.underlying25 (by kernel_rfl) (by kernel_rfl) hv h
  obtain ⟨n, e, _⟩ := DataW.trod_bool Try.underlying4 t0
  simp at e
  subst e
  obtain ⟨a, len, cap, zs, rfl, hz⟩ := open_one t1
  exact ⟨n, a, len, cap, zs, rfl, hz⟩

set_option maxHeartbeats 1600000 in
theorem walk (n0 : Bool) (a0 : Option Addr) (len0 cap0 : Nat) (z0 : List Int) (x0 : Int) (n1 : Bool) (a1 : Option Addr) (len1 cap1 : Nat) (z1 : List Int) (w : World) (w0 : IsRow .u64 w a0 len0 cap0 z0) (h0 : (Lit.int .i64 x0).wf = true) (w1 : IsRow .u64 w a1 len1 cap1 z1) :
    Calls Try.prog 3 #[.agg #[.bool n0, .slice a0 len0 cap0], .int .i64 x0, .agg #[.bool n1, .slice a1 len1 cap1]] w fun e w' => e = .returned (.bool true) ∧ Below w.heap.size w w' := by
  have hx := int_of_wf h0
  have B0 := ((Below.refl w.heap.size w).alloc (Nat.le_refl _) (.cells #[.bool n0, .slice a0 len0 cap0] 25)).alloc (by simp) (.cells #[.bool n1, .slice a1 len1 cap1] 25)
  have H0 := (Nums.of_row w0).below B0
  have H1 := (Nums.of_row w1).below B0
  generalize z0.take len0 = zs at H0
  generalize z1.take len1 = ys at H1
  clear w0 w1 h0
  have F := few_two a0 a1 len0 cap0 len1 cap1 _ _ _ H0 H1
  have hz : ((w.alloc (.cells #[.bool n0, .slice a0 len0 cap0] 25)).alloc (.cells #[.bool n1, .slice a1 len1 cap1] 25)).heap.size = w.heap.size + 1 + 1 := by simp
  rw [hz] at F
  cases hf : manyB 70 [len0, len1] with
  | false =>
    rw [hf] at F
    go_enter Try.func3, Try.ntmps3
    go_wp2_with fail
    refine F.mono ?_
    rintro e w' ⟨rfl, -, -, hb⟩
    have hB := B0.trans (hb.mono (by first | omega | (rw [hz]; omega)))
    go_wp2_with fail
    go_ret
    exact ⟨rfl, hB⟩
  | true =>
    rw [hf] at F
    clear H0 H1 hf
    go_enter Try.func3, Try.ntmps3
    go_wp2_with fail
    refine F.mono ?_
    rintro e v0 ⟨rfl, G0, G1, hb⟩
    rw [← hz] at hb
    obtain ⟨⟨c0, c1⟩, ⟨d0, d1⟩, -, -⟩ := held22 hb
    have hB0 := B0.trans (hb.mono (by first | omega | (rw [hz]; omega)))
    clear F B0 hb hz
    go_wp2_with fail
    refine (iof_any x0 _ hx).mono ?_
    rintro e v1 ⟨xa, xn, xc, rfl, hX, hb⟩
    have hB1 := hB0.trans (hb.mono hB0.size)
    have hV := (Below.refl v1.heap.size v1).alloc (Nat.le_refl _) (.cells #[.bool (decide (x0 < 0)), .slice xa xn xc] 25)
    have b1 := hb.trans (hV.mono hb.size)
    have X2 := hX.below hV
    have G02 := G0.below b1
    have G12 := G1.below b1
    replace c0 := bkeep b1 c0 rfl
    replace c1 := bkeep b1 c1 rfl
    replace d0 := bkeep b1 d0 rfl
    replace d1 := bkeep b1 d1 rfl
    have hB2 := hB1.trans (hV.mono hB1.size)
    clear hB0 hB1 hb hX G0 G1 b1
    have e0 : (v1.alloc (.cells #[.bool (decide (x0 < 0)), .slice xa xn xc] 25)).cell? ⟨v1.heap.size, 0, none⟩ = some (.bool (decide (x0 < 0))) := by simp
    have e1 : (v1.alloc (.cells #[.bool (decide (x0 < 0)), .slice xa xn xc] 25)).cell? ⟨v1.heap.size, 1, none⟩ = some (.slice xa xn xc) := by simp
    go_upto_region 6 with fail
    clear hV
    generalize v1.alloc (.cells #[.bool (decide (x0 < 0)), .slice xa xn xc] 25) = V at *
    generalize v1.heap.size = g at *
    go_cut [10] (fun sv wx => sv = .bool true ∧ Below V.heap.size V wx)
    case first =>
      have HOf : Hid (∀ wx, Below V.heap.size V wx → Calls Try.prog 12 #[.int .i64 x0] wx fun e w' => ∃ ya yn yc, e = .returned (.agg #[.bool (decide (x0 < 0)), .slice ya yn yc]) ∧ (Nums w' ya yn yc (ofZ (sz x0)) ∧ Nums w' xa xn xc (ofZ (sz x0)) ∧ Below V.heap.size V w') ∧ w'.cell? ⟨g, 0, none⟩ = some (.bool (decide (x0 < 0))) ∧ w'.cell? ⟨g, 1, none⟩ = some (.slice xa xn xc)) := by
        intro wx hbx
        refine (refIOf_any x0 wx hx).mono ?_
        rintro e w' ⟨ya, yn, yc, rfl, hY, hb⟩
        have hb' := hbx.trans (hb.mono hbx.size)
        exact ⟨ya, yn, yc, rfl, ⟨hY, X2.below hb', hb'⟩, bkeep hb' e0 rfl, bkeep hb' e1 rfl⟩
      clear X2 G02 G12 hB2 c0 c1 d0 d1
      go_region_with (first
        | (go_at_call 12; refine (HOf.out _ ?_).mono ?_; (exact ⟨rfl, rfl, rfl, Nat.le_refl _, fun _ _ => rfl⟩); rintro e w3 ⟨ya, yn, yc, rfl, hY, p0, p1⟩)
        | (go_at_call 11; refine (isame_eq V _ _ _ _ _ _ _ (ofZ (sz x0)) _ ?_ ?_ ?_).mono ?_; (exact hY.2.1.alike (fun _ => rfl)); (exact hY.1.alike (fun _ => rfl)); (exact ⟨hY.2.2.os, hY.2.2.tape, hY.2.2.output, hY.2.2.size, hY.2.2.block⟩); rintro e w4 ⟨rfl, hb4⟩))
      all_goals
        clear HOf hY
        go_wp2_with fail
        go_meet
        case rel => exact ⟨rfl, ⟨hb4.os, hb4.tape, hb4.output, hb4.size, hb4.block⟩⟩
    case rest =>
      obtain ⟨rfl, hb⟩ := hcut
      have G0 := G02.below hb
      have G1 := G12.below hb
      replace c0 := bkeep hb c0 rfl
      replace c1 := bkeep hb c1 rfl
      have hB3 := hB2.trans (hb.mono hB2.size)
      clear X2 G02 G12 d0 d1 e0 e1 hB2 hb
      go_wp2_with fail
      refine (from_any n1 _ _ _ _ _ G1).mono ?_
      rintro e v2 ⟨ra, rn, rc, rfl, hR, hb⟩
      have hV := (Below.refl v2.heap.size v2).alloc (Nat.le_refl _) (.cells #[.bool (fromN n1 ys), .slice ra rn rc] 25)
      have b1 := hb.trans (hV.mono hb.size)
      have R2 := hR.below hV
      have G02 := G0.below b1
      have G12 := G1.below b1
      replace c0 := bkeep b1 c0 rfl
      replace c1 := bkeep b1 c1 rfl
      have hB4 := hB3.trans (b1.mono hB3.size)
      clear hB3 hb hR G0 G1 b1
      have e0 : (v2.alloc (.cells #[.bool (fromN n1 ys), .slice ra rn rc] 25)).cell? ⟨v2.heap.size, 0, none⟩ = some (.bool (fromN n1 ys)) := by simp
      have e1 : (v2.alloc (.cells #[.bool (fromN n1 ys), .slice ra rn rc] 25)).cell? ⟨v2.heap.size, 1, none⟩ = some (.slice ra rn rc) := by simp
      go_upto_region 8 with fail
      clear hV
      generalize v2.alloc (.cells #[.bool (fromN n1 ys), .slice ra rn rc] 25) = V2 at *
      generalize v2.heap.size = g2 at *
      go_cut [12] (fun sv wx => sv = .bool true ∧ Below V2.heap.size V2 wx)
      case first =>
        have HFr : Hid (∀ wx, Below V2.heap.size V2 wx → Calls Try.prog 14 #[.bool n1, .slice a1 len1 cap1] wx fun e w' => ∃ ya yn yc, e = .returned (.agg #[.bool (fromN n1 ys), .slice ya yn yc]) ∧ (Nums w' ya yn yc (fromL ys) ∧ Nums w' ra rn rc (fromL ys) ∧ Below V2.heap.size V2 w') ∧ w'.cell? ⟨g2, 0, none⟩ = some (.bool (fromN n1 ys)) ∧ w'.cell? ⟨g2, 1, none⟩ = some (.slice ra rn rc)) := by
          intro wx hbx
          refine (refFrom_any n1 _ _ _ _ wx (G12.below hbx)).mono ?_
          rintro e w' ⟨ya, yn, yc, rfl, hY, hb⟩
          have hb' := hbx.trans (hb.mono hbx.size)
          exact ⟨ya, yn, yc, rfl, ⟨hY, R2.below hb', hb'⟩, bkeep hb' e0 rfl, bkeep hb' e1 rfl⟩
        clear R2 G02 G12 hB4 c0 c1
        generalize fromN n1 ys = nq at *
        go_region_with (first
          | (go_at_call 14; refine (HFr.out _ ?_).mono ?_; (exact ⟨rfl, rfl, rfl, Nat.le_refl _, fun _ _ => rfl⟩); rintro e w3 ⟨ya, yn, yc, rfl, hY, p0, p1⟩)
          | (go_at_call 11; refine (isame_eq V2 _ _ _ _ _ _ _ (fromL ys) _ ?_ ?_ ?_).mono ?_; (exact hY.2.1.alike (fun _ => rfl)); (exact hY.1.alike (fun _ => rfl)); (exact ⟨hY.2.2.os, hY.2.2.tape, hY.2.2.output, hY.2.2.size, hY.2.2.block⟩); rintro e w4 ⟨rfl, hb4⟩))
        all_goals
          clear HFr hY
          go_wp2_with fail
          go_meet
          case rel => exact ⟨rfl, ⟨hb4.os, hb4.tape, hb4.output, hb4.size, hb4.block⟩⟩
      case rest =>
        obtain ⟨rfl, hb⟩ := hcut
        have G0 := G02.below hb
        replace c0 := bkeep hb c0 rfl
        replace c1 := bkeep hb c1 rfl
        have hB5 := hB4.trans (hb.mono hB4.size)
        clear R2 G02 G12 e0 e1 hB4 hb
        go_wp2_with fail
        refine (ismall_any n0 _ _ _ _ _ G0).mono ?_
        rintro e v3 ⟨rfl, hb⟩
        have G1 := G0.below hb
        replace c0 := bkeep hb c0 rfl
        replace c1 := bkeep hb c1 rfl
        have hB6 := hB5.trans (hb.mono hB5.size)
        clear G0 hB5 hb
        go_wp2_with fail
        refine (refISmall_any n0 _ _ _ _ _ G1).mono ?_
        rintro e v4 ⟨rfl, hb⟩
        have G2 := G1.below hb
        replace c0 := bkeep hb c0 rfl
        replace c1 := bkeep hb c1 rfl
        have hB7 := hB6.trans (hb.mono hB6.size)
        clear G1 hB6 hb
        generalize ismZ n0 zs = sz0
        generalize ismB n0 zs = sb0
        go_wp2_with fail
        refine (iof_any 1 _ (by omega)).mono ?_
        rintro e v5 ⟨oa, on, oc, rfl, hO, hb⟩
        have G3 := G2.below hb
        replace c0 := bkeep hb c0 rfl
        replace c1 := bkeep hb c1 rfl
        have hB8 := hB7.trans (hb.mono hB7.size)
        clear G2 hB7 hb
        go_wp2_with fail
        have hS := ismall_any false oa on oc (ofZ (sz 1)) v5 hO
        rw [show ismZ false (ofZ (sz 1)) = 1 by decide, show ismB false (ofZ (sz 1)) = true by decide] at hS
        refine hS.mono ?_
        clear hS
        rintro e v6 ⟨rfl, hb⟩
        have G4 := G3.below hb
        replace c0 := bkeep hb c0 rfl
        replace c1 := bkeep hb c1 rfl
        have hB9 := hB8.trans (hb.mono hB8.size)
        clear G3 hB8 hb hO
        go_upto_region 12 with fail
        have hne := SW.inhabited v6
        have q0 := fun x : SW v6 => x.cell c0
        have q1 := fun x : SW v6 => x.cell c1
        have HR : Hid (∀ x : SW v6, Calls Try.prog 17 #[.agg #[.bool n0, .slice a0 len0 cap0]] x.w fun e w' => e = .returned (.bool (rightI n0 zs)) ∧ ∃ y : SW v6, w' = y.w) := fun x => Calls.inClass (iright_any n0 _ _ _ _ _ (G4.below x.below))
        have HR' : Hid (∀ x : SW v6, Calls Try.prog 18 #[.agg #[.bool n0, .slice a0 len0 cap0]] x.w fun e w' => e = .returned (.bool (rightI n0 zs)) ∧ ∃ y : SW v6, w' = y.w) := fun x => Calls.inClass (refIRight_any n0 _ _ _ _ _ (G4.below x.below))
        clear G4 c0 c1
        generalize rightI n0 zs = rr at *
        refine wp_region_class v6 (by kernel_rfl) (by kernel_rfl) (Below.refl _ _) ?_
        repeat (go_big_quiet_step (first | (go_at_call 17; exact HR.out _) | (go_at_call 18; exact HR'.out _)))
        refine wpQuiet_nil ?_
        intro _ hw'
        obtain ⟨x, hw''⟩ := hw'
        subst hw''
        have hB10 := hB9.trans (x.below.mono hB9.size)
        clear HR HR' q0 q1 hB9
        go_wp2_with fail
        go_ret
        exact ⟨by simp, hB10⟩

set_option maxRecDepth 100000 in
theorem lifted (os : Os) (started : os.Started) (H : Type) (enc : TypeId × Value → H) :
    ReturnsInHanded {} Try.checked os 3 .any (Rows.modintRightsSpec.pre6 enc Try.prog Try.f3 Rows.modintRightsRow.domain false) (Rows.modintRightsSpec.post enc Try.prog Try.f3 false true false false) := by
  refine returnsInHanded_of_change (C := Try.checked) own started (by kernel_rfl) Try.func3
    (ChangeSpec.witness6 (enc := enc) (C := Try.checked) false ⟨#[], #[.agg #[.bool false, .slice none 0 0], .int .i64 0, .agg #[.bool false, .slice none 0 0]], []⟩ 8 (by kernel_rfl) (by kernel_rfl) (by kernel_rfl) (by kernel_rfl)) ?_
  intro W base args ds gs before hval0 hW hcnd _
  have hval : ∀ (j : Nat) t v, Try.f3.params[j]? = some t → args[j]? = some v → Value.okWide Try.prog W .any base t v := hval0
  have hW' := hW
  obtain ⟨p, q, hA0, hV, rfl, hfz, hnd⟩ := hW
  have hA : DataW.TrodAll enc Try.prog W 0 (fun _ => true) true Try.f3.params.toList args.toList ds p := hA0
  rw [Try.params3] at hA hval
  obtain ⟨v0, vs0, d0, ds0, p0, q0, hargs, rfl, rfl, h0, r0⟩ := trodAll_cons hA
  obtain ⟨v1, vs1, d1, ds1, p1, q1, rfl, rfl, rfl, h1, r1⟩ := trodAll_cons r0
  obtain ⟨v2, vs2, d2, ds2, p2, q2, rfl, rfl, rfl, h2, r2⟩ := trodAll_cons r1
  obtain ⟨rfl, rfl, rfl⟩ := trodAll_nil r2
  obtain rfl : args = #[v0, v1, v2] := by cases args; simp_all
  obtain ⟨rfl, rfl⟩ := trodVars_none hV
  have k0 := h0
  have lt0 : ∀ x ∈ p0, x.block < W.heap.size := by obtain ⟨m, hm⟩ := k0; exact DataW.trod_lt m _ _ _ hm
  obtain ⟨n0, a0, len0, cap0, z0, hv0, w0⟩ := open_whole (hval 0 25 v0 rfl rfl) h0
  subst hv0
  have k1 := h1
  have lt1 : ∀ x ∈ p1, x.block < W.heap.size := by obtain ⟨m, hm⟩ := k1; exact DataW.trod_lt m _ _ _ hm
  obtain ⟨x0, hv1, -, -, i0⟩ := open_int Try.underlying2 (hval 1 2 v1 rfl rfl) h1
  subst hv1
  have k2 := h2
  have lt2 : ∀ x ∈ p2, x.block < W.heap.size := by obtain ⟨m, hm⟩ := k2; exact DataW.trod_lt m _ _ _ hm
  obtain ⟨n1, a1, len1, cap1, z1, hv2, w1⟩ := open_whole (hval 2 25 v2 rfl rfl) h2
  subst hv2
  clear hA0 hval0
  refine (walk n0 a0 len0 cap0 z0 x0 n1 a1 len1 cap1 z1 W w0 i0 w1).mono fun e W' ⟨he, bel⟩ => ?_
  subst he
  exact ⟨_, rfl, _, _, _, [], _, [], hW', trodAll_mk1 (shut_bool Try.underlying4 _), (trodAll_cons_mk (Below.trod laidOut (by kernel_rfl) (of_decide_eq_true (by kernel_rfl)) k0 bel lt0) (trodAll_cons_mk (Below.trod laidOut (by kernel_rfl) (of_decide_eq_true (by kernel_rfl)) k1 bel lt1) (trodAll_cons_mk (Below.trod laidOut (by kernel_rfl) (of_decide_eq_true (by kernel_rfl)) k2 bel lt2) trodAll_mk0))), rfl, bel.frame _, fun h => by cases h⟩

theorem over : Rows.modintRightsRow.holds Try.pinned (OpenSpec.ofChange Rows.modintRightsSpec) :=
  OpenClaim.holds_of_wide 3 Try.f3 rfl rfl rfl rfl rfl rfl rfl ⟨rfl, rfl, rfl, rfl, rfl⟩ rfl rfl rfl rfl rfl (by kernel_rfl) Try.func3 (by kernel_rfl)
    (of_decide_eq_true (by kernel_rfl)) (by unfold Func.isWrapper; first | (rw [if_pos (by decide +kernel)]; kernel_rfl) | (rw [if_neg (by decide +kernel)]; exact ⟨rfl, rfl⟩))
    (fun os started H enc _ => lifted os started H enc)

theorem proved : Rows.ModintRightsSaid := over
end Go.Proofs.Ytaipkganijofjaa.modintRights
namespace Go.Proofs.Ytaipkganijofjaa
theorem modintRights_holds : Rows.ModintRightsSaid := modintRights.proved
#print axioms modintRights_holds
end Go.Proofs.Ytaipkganijofjaa

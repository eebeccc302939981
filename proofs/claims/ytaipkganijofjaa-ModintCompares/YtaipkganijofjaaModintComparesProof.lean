/-
  The statement ModintCompares holds of the code at the commit that is named beside it, for every input.
-/
import Derived.Test.YtaipkganijofjaaRows
import Derived.Test.YtaipkganijofjaaWholeB
import Derived.Test.YtaipkganijofjaaFew3
import Derived.Test.YtaipkganijofjaaTwo
import Derived.Test.YtaipkganijofjaaClass
import Derived.Lib.SmallJoins
import Derived.WalkKit
import Derived.ProofKit
import Derived.OpenShut
import Derived.ShutString
import Derived.ChangeOld
import Derived.Below
import Derived.Deep.Cut
import Derived.Deep.DeepCutAuto
import Derived.Deep.RegionWith
import Derived.BigRegion
namespace Go.Proofs.Ytaipkganijofjaa.modintCompares
open Go.ChangeShapes Go.WideShapes Go.ChangeAt Go.RowKit
open Go.ChangeMaps (open_string shut_string)
set_option linter.unusedVariables false

theorem own : ownKnob Try.prog.godebug = none := by kernel_rfl
theorem laidOut : laidOutB Try.prog = true := by kernel_rfl

theorem open_one {H : Type} {enc : TypeId × Value → H} {W : World} {m : Nat} {c : Value} {x : DataW H × List MemPlace} (hf : DataW.trod enc Try.prog W 0 (fun _ => true) true m 23 [c] = some x) : ∃ a len cap zs, c = .slice a len cap ∧ IsRow .u64 W a len cap zs := by
  rcases open_ints Try.underlying23 Try.underlying36 (by kernel_rfl) hf with ⟨hcs, _⟩ | ⟨x, l, c, zs, hcs, _, hl, hm, hz, _, hcell, hwz⟩
  · simp at hcs
    exact ⟨none, 0, 0, [], hcs, .inl ⟨rfl, rfl, rfl, rfl⟩⟩
  · simp at hcs
    exact ⟨_, _, _, zs, hcs, .inr ⟨_, rfl, hl, hm, by simpa using hz, hcell, hwz⟩⟩

theorem open_whole {H : Type} {enc : TypeId × Value → H} {W : World} {base : Nat} {v : Value} {d : DataW H} {ps : List MemPlace} (hv : Value.okWide Try.prog W .any base 25 v) (h : DataW.Trod enc Try.prog W 0 (fun _ => true) true 25 v d ps) :
    ∃ n a len cap zs, v = .agg #[.bool n, .slice a len cap] ∧ IsRow .u64 W a len cap zs := by
  obtain ⟨v0, v1, y0, y1, m, rfl, _, _, t0, t1⟩ := Go.Joins.open_agg2 Try.underlying25 (by kernel_rfl) (by kernel_rfl) hv h
  obtain ⟨n, e, _⟩ := DataW.trod_bool Try.underlying4 t0
  simp at e
  subst e
  obtain ⟨a, len, cap, zs, rfl, hz⟩ := open_one t1
  exact ⟨n, a, len, cap, zs, rfl, hz⟩

set_option maxHeartbeats 1600000 in
theorem walk (n0 : Bool) (a0 : Option Addr) (len0 cap0 : Nat) (z0 : List Int) (n1 : Bool) (a1 : Option Addr) (len1 cap1 : Nat) (z1 : List Int) (w : World) (w0 : IsRow .u64 w a0 len0 cap0 z0) (w1 : IsRow .u64 w a1 len1 cap1 z1) :
    Calls Try.prog 4 #[.agg #[.bool n0, .slice a0 len0 cap0], .agg #[.bool n1, .slice a1 len1 cap1]] w fun e w' => e = .returned (.bool true) ∧ Below w.heap.size w w' := by
  have B0 := ((Below.refl w.heap.size w).alloc (Nat.le_refl _) (.cells #[.bool n0, .slice a0 len0 cap0] 25)).alloc (by simp) (.cells #[.bool n1, .slice a1 len1 cap1] 25)
  have H0 := (Nums.of_row w0).below B0
  have H1 := (Nums.of_row w1).below B0
  generalize z0.take len0 = zs at H0
  generalize z1.take len1 = ys at H1
  clear w0 w1
  have F := few_two a0 a1 len0 cap0 len1 cap1 _ _ _ H0 H1
  have hz : ((w.alloc (.cells #[.bool n0, .slice a0 len0 cap0] 25)).alloc (.cells #[.bool n1, .slice a1 len1 cap1] 25)).heap.size = w.heap.size + 1 + 1 := by simp
  rw [hz] at F
  cases hf : manyB 70 [len0, len1] with
  | false =>
    rw [hf] at F
    go_enter Try.func4, Try.ntmps4
    go_wp2_with fail
    refine F.mono ?_
    rintro e w' ⟨rfl, -, -, hb⟩
    have hB := B0.trans (hb.mono (by first | omega | (rw [hz]; omega)))
    go_wp2_with fail
    go_ret
    exact ⟨rfl, hB⟩
  | true =>
    rw [hf] at F
    clear H0 H1 hf
    go_enter Try.func4, Try.ntmps4
    go_wp2_with fail
    refine F.mono ?_
    rintro e v0 ⟨rfl, G0, G1, hb⟩
    rw [← hz] at hb
    obtain ⟨⟨c0, c1⟩, ⟨d0, d1⟩, -, -⟩ := held22 hb
    have hB0 := B0.trans (hb.mono (by first | omega | (rw [hz]; omega)))
    clear F B0 hb hz
    go_wp2_with fail
    refine (ineg_any n0 _ _ _ _ _ G0).mono ?_
    rintro e v1 ⟨xa, xn, xc, rfl, hX, hb⟩
    obtain ⟨nq, hnq⟩ : ∃ nq, nq = negN n0 zs := ⟨_, rfl⟩
    rw [← hnq]
    have HN : Hid (nq = negN n0 zs) := hnq
    clear hnq
    have hV := (Below.refl v1.heap.size v1).alloc (Nat.le_refl _) (.cells #[.bool nq, .slice xa xn xc] 25)
    have b1 := hb.trans (hV.mono hb.size)
    have X1 := hX.below hV
    replace G0 := G0.below b1
    replace G1 := G1.below b1
    replace c0 := bkeep b1 c0 rfl
    replace c1 := bkeep b1 c1 rfl
    replace d0 := bkeep b1 d0 rfl
    replace d1 := bkeep b1 d1 rfl
    have p0 : (v1.alloc (.cells #[.bool nq, .slice xa xn xc] 25)).cell? ⟨v1.heap.size, 0, none⟩ = some (.bool nq) := by simp
    have p1 : (v1.alloc (.cells #[.bool nq, .slice xa xn xc] 25)).cell? ⟨v1.heap.size, 1, none⟩ = some (.slice xa xn xc) := by simp
    have hB1 := hB0.trans (b1.mono hB0.size)
    clear hB0 hb hX b1 hV
    go_upto_region 4 with fail
    generalize v1.alloc (.cells #[.bool nq, .slice xa xn xc] 25) = V at *
    generalize v1.heap.size = g at *
    go_cut [6] (fun sv wx => sv = .bool true ∧ Below V.heap.size V wx)
    case first =>
      have HNg : Hid (∀ wx, Below V.heap.size V wx → Calls Try.prog 20 #[.agg #[.bool n0, .slice a0 len0 cap0]] wx fun e w' => ∃ ya yn yc, e = .returned (.agg #[.bool nq, .slice ya yn yc]) ∧ (Nums w' ya yn yc (negL n0 zs) ∧ Nums w' xa xn xc (negL n0 zs) ∧ Below V.heap.size V w') ∧ w'.cell? ⟨g, 0, none⟩ = some (.bool nq) ∧ w'.cell? ⟨g, 1, none⟩ = some (.slice xa xn xc)) := by
        intro wx hbx
        refine (refINeg_any n0 _ _ _ _ wx (G0.below hbx)).mono ?_
        rintro e w' ⟨ya, yn, yc, rfl, hY, hb⟩
        have hb' := hbx.trans (hb.mono hbx.size)
        rw [← HN.out]
        exact ⟨ya, yn, yc, rfl, ⟨hY, X1.below hb', hb'⟩, bkeep hb' p0 rfl, bkeep hb' p1 rfl⟩
      clear X1 G0 G1 hB1 d0 d1 HN
      go_region_with (first
        | (go_at_call 20; refine (HNg.out _ ?_).mono ?_; (exact ⟨rfl, rfl, rfl, Nat.le_refl _, fun _ _ => rfl⟩); rintro e w3 ⟨ya, yn, yc, rfl, hY, q0, q1⟩)
        | (go_at_call 11; refine (isame_eq V _ _ _ _ _ _ _ (negL n0 zs) _ ?_ ?_ ?_).mono ?_; (exact hY.2.1.alike (fun _ => rfl)); (exact hY.1.alike (fun _ => rfl)); (exact ⟨hY.2.2.os, hY.2.2.tape, hY.2.2.output, hY.2.2.size, hY.2.2.block⟩); rintro e w4 ⟨rfl, hb4⟩))
      all_goals
        clear HNg hY
        go_wp2_with fail
        go_meet
        case rel => exact ⟨rfl, ⟨hb4.os, hb4.tape, hb4.output, hb4.size, hb4.block⟩⟩
    case rest =>
      obtain ⟨rfl, hb⟩ := hcut
      replace G0 := G0.below hb
      replace G1 := G1.below hb
      replace c0 := bkeep hb c0 rfl
      replace c1 := bkeep hb c1 rfl
      replace d0 := bkeep hb d0 rfl
      replace d1 := bkeep hb d1 rfl
      have hB2 := hB1.trans (hb.mono hB1.size)
      clear X1 hB1 hb p0 p1 HN
      have L1 := Nums.lit1 wc 1 (by omega) 36
      have hV := (Below.refl wc.heap.size wc).alloc (Nat.le_refl _) (.cells #[.int .u64 1] 36)
      replace G0 := G0.below hV
      replace G1 := G1.below hV
      replace c0 := bkeep hV c0 rfl
      replace c1 := bkeep hV c1 rfl
      replace d0 := bkeep hV d0 rfl
      replace d1 := bkeep hV d1 rfl
      have hB3 := hB2.trans (hV.mono hB2.size)
      clear hB2 hV
      go_wp2_with fail
      refine (icmp_any false false _ _ _ _ _ _ [1] [] _ L1 (Nums.nil _)).mono ?_
      rintro e v5 ⟨rfl, hb⟩
      rw [show cmpI false [1] false [] = 1 by decide]
      replace G0 := G0.below hb
      replace G1 := G1.below hb
      replace c0 := bkeep hb c0 rfl
      replace c1 := bkeep hb c1 rfl
      replace d0 := bkeep hb d0 rfl
      replace d1 := bkeep hb d1 rfl
      have hB4 := hB3.trans (hb.mono hB3.size)
      clear hB3 hb L1
      go_upto_region 6 with fail
      have hne := SW.inhabited v5
      have q0 := fun x : SW v5 => x.cell c0
      have q1 := fun x : SW v5 => x.cell c1
      have q2 := fun x : SW v5 => x.cell d0
      have q3 := fun x : SW v5 => x.cell d1
      have HR : Hid (∀ x : SW v5, Calls Try.prog 21 #[.agg #[.bool n0, .slice a0 len0 cap0], .agg #[.bool n1, .slice a1 len1 cap1]] x.w fun e w' => e = .returned (.int .i64 (cmpI n0 zs n1 ys)) ∧ ∃ y : SW v5, w' = y.w) := fun x => Calls.inClass (icmp_any n0 n1 _ _ _ _ _ _ _ _ _ (G0.below x.below) (G1.below x.below))
      have HR' : Hid (∀ x : SW v5, Calls Try.prog 22 #[.agg #[.bool n0, .slice a0 len0 cap0], .agg #[.bool n1, .slice a1 len1 cap1]] x.w fun e w' => e = .returned (.int .i64 (cmpI n0 zs n1 ys)) ∧ ∃ y : SW v5, w' = y.w) := fun x => Calls.inClass (refICmp_any n0 n1 _ _ _ _ _ _ _ _ _ (G0.below x.below) (G1.below x.below))
      clear G0 G1 c0 c1 d0 d1
      generalize cmpI n0 zs n1 ys = cc at *
      refine wp_region_class v5 (by kernel_rfl) (by kernel_rfl) (Below.refl _ _) ?_
      repeat (go_big_quiet_step (first | (go_at_call 21; exact HR.out _) | (go_at_call 22; exact HR'.out _)))
      refine wpQuiet_nil ?_
      intro _ hw'
      obtain ⟨x, hw''⟩ := hw'
      subst hw''
      have hB10 := hB4.trans (x.below.mono hB4.size)
      clear HR HR' q0 q1 q2 q3 hB4
      go_wp2_with fail
      go_ret
      exact ⟨by simp, hB10⟩

set_option maxRecDepth 100000 in
theorem lifted (os : Os) (started : os.Started) (H : Type) (enc : TypeId × Value → H) :
    ReturnsInHanded {} Try.checked os 4 .any (Rows.modintComparesSpec.pre6 enc Try.prog Try.f4 Rows.modintComparesRow.domain false) (Rows.modintComparesSpec.post enc Try.prog Try.f4 false true false false) := by
  refine returnsInHanded_of_change (C := Try.checked) own started (by kernel_rfl) Try.func4
    (ChangeSpec.witness6 (enc := enc) (C := Try.checked) false ⟨#[], #[.agg #[.bool false, .slice none 0 0], .agg #[.bool false, .slice none 0 0]], []⟩ 8 (by kernel_rfl) (by kernel_rfl) (by kernel_rfl) (by kernel_rfl)) ?_
  intro W base args ds gs before hval0 hW hcnd _
  have hval : ∀ (j : Nat) t v, Try.f4.params[j]? = some t → args[j]? = some v → Value.okWide Try.prog W .any base t v := hval0
  have hW' := hW
  obtain ⟨p, q, hA0, hV, rfl, hfz, hnd⟩ := hW
  have hA : DataW.TrodAll enc Try.prog W 0 (fun _ => true) true Try.f4.params.toList args.toList ds p := hA0
  rw [Try.params4] at hA hval
  obtain ⟨v0, vs0, d0, ds0, p0, q0, hargs, rfl, rfl, h0, r0⟩ := trodAll_cons hA
  obtain ⟨v1, vs1, d1, ds1, p1, q1, rfl, rfl, rfl, h1, r1⟩ := trodAll_cons r0
  obtain ⟨rfl, rfl, rfl⟩ := trodAll_nil r1
  obtain rfl : args = #[v0, v1] := by cases args; simp_all
  obtain ⟨rfl, rfl⟩ := trodVars_none hV
  have k0 := h0
  have lt0 : ∀ x ∈ p0, x.block < W.heap.size := by obtain ⟨m, hm⟩ := k0; exact DataW.trod_lt m _ _ _ hm
  obtain ⟨n0, a0, len0, cap0, z0, hv0, w0⟩ := open_whole (hval 0 25 v0 rfl rfl) h0
  subst hv0
  have k1 := h1
  have lt1 : ∀ x ∈ p1, x.block < W.heap.size := by obtain ⟨m, hm⟩ := k1; exact DataW.trod_lt m _ _ _ hm
  obtain ⟨n1, a1, len1, cap1, z1, hv1, w1⟩ := open_whole (hval 1 25 v1 rfl rfl) h1
  subst hv1
  clear hA0 hval0
  refine (walk n0 a0 len0 cap0 z0 n1 a1 len1 cap1 z1 W w0 w1).mono fun e W' ⟨he, bel⟩ => ?_
  subst he
  exact ⟨_, rfl, _, _, _, [], _, [], hW', trodAll_mk1 (shut_bool Try.underlying4 _), (trodAll_cons_mk (Below.trod laidOut (by kernel_rfl) (of_decide_eq_true (by kernel_rfl)) k0 bel lt0) (trodAll_cons_mk (Below.trod laidOut (by kernel_rfl) (of_decide_eq_true (by kernel_rfl)) k1 bel lt1) trodAll_mk0)), rfl, bel.frame _, fun h => by cases h⟩

theorem over : Rows.modintComparesRow.holds Try.pinned (OpenSpec.ofChange Rows.modintComparesSpec) :=
  OpenClaim.holds_of_wide 4 Try.f4 rfl rfl rfl rfl rfl rfl rfl ⟨rfl, rfl, rfl, rfl, rfl⟩ rfl rfl rfl rfl rfl (by kernel_rfl) Try.func4 (by kernel_rfl)
    (of_decide_eq_true (by kernel_rfl)) (by unfold Func.isWrapper; first | (rw [if_pos (by decide +kernel)]; kernel_rfl) | (rw [if_neg (by decide +kernel)]; exact ⟨rfl, rfl⟩))
    (fun os started H enc _ => lifted os started H enc)

theorem proved : Rows.ModintComparesSaid := over
end Go.Proofs.Ytaipkganijofjaa.modintCompares
namespace Go.Proofs.Ytaipkganijofjaa
theorem modintCompares_holds : Rows.ModintComparesSaid := modintCompares.proved
#print axioms modintCompares_holds
end Go.Proofs.Ytaipkganijofjaa

/-
  The statement ModintFloors holds of the code at the commit that is named beside it, for every input.
-/
import Derived.Test.YtaipkganijofjaaRows
import Derived.Test.YtaipkganijofjaaWFloor
import Derived.Test.YtaipkganijofjaaWRefFloor
import Derived.Test.YtaipkganijofjaaFew3
import Derived.Test.YtaipkganijofjaaTwo
import Derived.Lib.SmallJoins
import Derived.WalkKit
import Derived.ProofKit
import Derived.OpenShut
import Derived.ShutString
import Derived.ChangeOld
import Derived.Below
import Derived.Deep.Cut
import Derived.Deep.DeepCutAuto
import Derived.Deep.RegionWith
import Derived.BigRegion
namespace Go.Proofs.Ytaipkganijofjaa.modintFloors
open Go.ChangeShapes Go.WideShapes Go.ChangeAt Go.RowKit
open Go.ChangeMaps (open_string shut_string)
set_option linter.unusedVariables false

theorem own : ownKnob Try.prog.godebug = none := by kernel_rfl
theorem laidOut : laidOutB Try.prog = true := by kernel_rfl

theorem open_one {H : Type} {enc : TypeId × Value → H} {W : World} {m : Nat} {c : Value} {x : DataW H × List MemPlace} (hf : DataW.trod enc Try.prog W 0 (fun _ => true) true m 23 [c] = some x) : ∃ a len cap zs, c = .slice a len cap ∧ IsRow .u64 W a len cap zs := by
  rcases open_ints Try.underlying23 Try.underlying36 (by kernel_rfl) hf with ⟨hcs, _⟩ | ⟨x, l, c, zs, hcs, _, hl, hm, hz, _, hcell, hwz⟩
  · simp at hcs
    exact ⟨none, 0, 0, [], hcs, .inl ⟨rfl, rfl, rfl, rfl⟩⟩
  · simp at hcs
    exact ⟨_, _, _, zs, hcs, .inr ⟨_, rfl, hl, hm, by simpa using hz, hcell, hwz⟩⟩

theorem open_whole {H : Type} {enc : TypeId × Value → H} {W : World} {base : Nat} {v : Value} {d : DataW H} {ps : List MemPlace} (hv : Value.okWide Try.prog W .any base 25 v) (h : DataW.Trod enc Try.prog W 0 (fun _ => true) true 25 v d ps) :
    ∃ n a len cap zs, v = .agg #[.bool n, .slice a len cap] ∧ IsRow .u64 W a len cap zs := by
  obtain ⟨v0, v1, y0, y1, m, rfl, _, _, t0, t1⟩ := Go.Joins.open_agg2 Try.underlying25 (by kernel_rfl) (by kernel_rfl) hv h
  obtain ⟨n, e, _⟩ := DataW.trod_bool Try.underlying4 t0
  simp at e
  subst e
  obtain ⟨a, len, cap, zs, rfl, hz⟩ := open_one t1
  exact ⟨n, a, len, cap, zs, rfl, hz⟩

theorem floor_one {p r : Bool} {qs rs : List Int} {e : Int} (h : ResFloor false [1] false [1] p qs r rs e) : qs.length = 1 := by
  have h2 : ResFloor false [1] false [1] (false && decide (0 < [(1 : Int)].length)) [1] false [] 0 := floor_direct (by decide) (by decide) (resdiv_mk (by intro x hx; simp at hx; omega) (by intro x hx; simp at hx; omega) (by decide) (by decide) (by decide) (by intro x hx; simp at hx; omega) (Digs.nil _) (by simp [Top]) (.inl rfl) (by decide) (by decide)) (.inl rfl)
  rw [(h.unique h2).1.2]; rfl

set_option maxHeartbeats 1600000 in
theorem walk (n0 : Bool) (a0 : Option Addr) (len0 cap0 : Nat) (z0 : List Int) (n1 : Bool) (a1 : Option Addr) (len1 cap1 : Nat) (z1 : List Int) (w : World) (w0 : IsRow .u64 w a0 len0 cap0 z0) (w1 : IsRow .u64 w a1 len1 cap1 z1) :
    Calls Try.prog 7 #[.agg #[.bool n0, .slice a0 len0 cap0], .agg #[.bool n1, .slice a1 len1 cap1]] w fun e w' => e = .returned (.bool true) ∧ Below w.heap.size w w' := by
  have B0 := ((Below.refl w.heap.size w).alloc (Nat.le_refl _) (.cells #[.bool n0, .slice a0 len0 cap0] 25)).alloc (by simp) (.cells #[.bool n1, .slice a1 len1 cap1] 25)
  have H0 := (Nums.of_row w0).below B0
  have H1 := (Nums.of_row w1).below B0
  generalize z0.take len0 = zs at H0
  generalize z1.take len1 = ys at H1
  clear w0 w1
  have F := few_two a0 a1 len0 cap0 len1 cap1 _ _ _ H0 H1
  have hz : ((w.alloc (.cells #[.bool n0, .slice a0 len0 cap0] 25)).alloc (.cells #[.bool n1, .slice a1 len1 cap1] 25)).heap.size = w.heap.size + 1 + 1 := by simp
  rw [hz] at F
  cases hf : manyB 70 [len0, len1] with
  | false =>
    rw [hf] at F
    go_enter Try.func7, Try.ntmps7
    go_wp2_with fail
    refine F.mono ?_
    rintro e w' ⟨rfl, -, -, hb⟩
    have hB := B0.trans (hb.mono (by first | omega | (rw [hz]; omega)))
    go_wp2_with fail
    go_ret
    exact ⟨rfl, hB⟩
  | true =>
    rw [hf] at F
    clear H0 H1 hf
    go_enter Try.func7, Try.ntmps7
    go_wp2_with fail
    refine F.mono ?_
    rintro e v0 ⟨rfl, G0, G1, hb⟩
    rw [← hz] at hb
    obtain ⟨⟨c0, c1⟩, ⟨d0, d1⟩, -, -⟩ := held22 hb
    have hB0 := B0.trans (hb.mono (by first | omega | (rw [hz]; omega)))
    clear F B0 hb hz
    go_wp2_with fail
    refine (ifloor_any n0 n1 _ _ _ _ _ _ _ _ _ G0 G1).mono ?_
    rintro e v1 ⟨p, xa, xn, xc, qs, r, ya, yn, yc, rs, e1, rfl, ⟨hX, hY⟩, hR, hb⟩
    have HR : Hid (ResFloor n0 zs n1 ys p qs r rs e1) := hR
    have hV := ((Below.refl v1.heap.size v1).alloc (Nat.le_refl _) (.cells #[.bool p, .slice xa xn xc] 25)).alloc (by simp) (.cells #[.bool r, .slice ya yn yc] 25)
    have b1 := hb.trans (hV.mono hb.size)
    have X1 := hX.below hV
    have Y1 := hY.below hV
    replace G0 := G0.below b1
    replace G1 := G1.below b1
    replace c0 := bkeep b1 c0 rfl
    replace c1 := bkeep b1 c1 rfl
    replace d0 := bkeep b1 d0 rfl
    replace d1 := bkeep b1 d1 rfl
    obtain ⟨⟨p0, p1⟩, ⟨p2, p3⟩, -, -⟩ := held22 (Below.refl ((v1.alloc (.cells #[.bool p, .slice xa xn xc] 25)).alloc (.cells #[.bool r, .slice ya yn yc] 25)).heap.size ((v1.alloc (.cells #[.bool p, .slice xa xn xc] 25)).alloc (.cells #[.bool r, .slice ya yn yc] 25)))
    have hB1 := hB0.trans (b1.mono hB0.size)
    clear hB0 hb hX hY b1 hR hV
    go_upto_region 4 with fail
    generalize (v1.alloc (.cells #[.bool p, .slice xa xn xc] 25)).alloc (.cells #[.bool r, .slice ya yn yc] 25) = V at *
    generalize v1.heap.size = g at *
    go_wp2_with fail
    refine (refIFloor_any n0 n1 _ _ _ _ _ _ _ _ _ G0 G1).mono ?_
    rintro e v2 ⟨p', xa', xn', xc', qs', r', ya', yn', yc', rs', e2, rfl, ⟨hX, hY⟩, hR, hb⟩
    obtain ⟨⟨rfl, rfl⟩, ⟨rfl, rfl⟩, rfl⟩ := HR.out.unique hR
    have hV := ((Below.refl v2.heap.size v2).alloc (Nat.le_refl _) (.cells #[.bool p, .slice xa' xn' xc'] 25)).alloc (by simp) (.cells #[.bool r, .slice ya' yn' yc'] 25)
    have b1 := hb.trans (hV.mono hb.size)
    have X2 := hX.below hV
    have Y2 := hY.below hV
    replace X1 := X1.below b1
    replace Y1 := Y1.below b1
    replace p0 := bkeep b1 p0 rfl
    replace p1 := bkeep b1 p1 rfl
    replace p2 := bkeep b1 p2 rfl
    replace p3 := bkeep b1 p3 rfl
    obtain ⟨⟨r0, r1⟩, ⟨r2, r3⟩, -, -⟩ := held22 (Below.refl ((v2.alloc (.cells #[.bool p, .slice xa' xn' xc'] 25)).alloc (.cells #[.bool r, .slice ya' yn' yc'] 25)).heap.size ((v2.alloc (.cells #[.bool p, .slice xa' xn' xc'] 25)).alloc (.cells #[.bool r, .slice ya' yn' yc'] 25)))
    have hB2 := hB1.trans (b1.mono hB1.size)
    clear hB1 hb hX hY b1 hR hV HR G0 G1 c0 c1 d0 d1
    go_upto_region 5 with fail
    generalize (v2.alloc (.cells #[.bool p, .slice xa' xn' xc'] 25)).alloc (.cells #[.bool r, .slice ya' yn' yc'] 25) = V2 at *
    generalize v2.heap.size = g2 at *
    go_wp2_with fail
    refine (isame_eq V2 p _ _ _ _ _ _ _ _ X1 X2 (Below.refl _ _)).mono ?_
    rintro e v3 ⟨rfl, hb⟩
    replace Y1 := Y1.below hb
    replace Y2 := Y2.below hb
    replace p2 := bkeep hb p2 rfl
    replace p3 := bkeep hb p3 rfl
    replace r2 := bkeep hb r2 rfl
    replace r3 := bkeep hb r3 rfl
    have hB3 := hB2.trans (hb.mono hB2.size)
    clear hB2 hb X1 X2 p0 p1 r0 r1
    go_wp2_with fail
    refine (isame_eq v3 r _ _ _ _ _ _ _ _ Y1 Y2 (Below.refl _ _)).mono ?_
    rintro e v4 ⟨rfl, hb⟩
    have hB4 := hB3.trans (hb.mono hB3.size)
    clear hB3 hb Y1 Y2 p2 p3 r2 r3
    have L1 := Nums.lit1 v4 1 (by omega) 36
    have b2 := (Below.refl v4.heap.size v4).alloc (Nat.le_refl _) (.cells #[.int .u64 1] 36)
    have L2 := Nums.lit1 (v4.alloc (.cells #[.int .u64 1] 36)) 1 (by omega) 36
    have b1 := (Below.refl (v4.alloc (.cells #[.int .u64 1] 36)).heap.size (v4.alloc (.cells #[.int .u64 1] 36))).alloc (Nat.le_refl _) (.cells #[.int .u64 1] 36)
    have L1' := L1.below b1
    have hB5 := (hB4.trans (b2.mono hB4.size)).trans (b1.mono (hB4.trans (b2.mono hB4.size)).size)
    simp only [World.size_alloc] at L2
    clear b1 b2 L1 hB4
    go_wp2_with fail
    refine (ifloor_any false false _ _ _ _ _ _ [1] [1] _ L1' L2).mono ?_
    rintro e v7 ⟨p5, oa, on, oc, os, r5, ka, kn, kc, ks, oe, rfl, ⟨hO, hK⟩, hR, hb⟩
    have ho : on = 1 := by
      have h1 := floor_one hR
      have := hO.hlen
      omega
    subst ho
    have hB8 := hB5.trans (hb.mono hB5.size)
    have hB9 := (hB8.alloc hB8.size (.cells #[.bool p5, .slice oa 1 oc] 25)).alloc (hB8.alloc hB8.size (.cells #[.bool p5, .slice oa 1 oc] 25)).size (.cells #[.bool r5, .slice ka kn kc] 25)
    clear hB5 hB8 hb L1' L2 hO hR hK
    go_wp2_with fail
    go_ret
    exact ⟨by simp, hB9⟩

set_option maxRecDepth 100000 in
theorem lifted (os : Os) (started : os.Started) (H : Type) (enc : TypeId × Value → H) :
    ReturnsInHanded {} Try.checked os 7 .any (Rows.modintFloorsSpec.pre6 enc Try.prog Try.f7 Rows.modintFloorsRow.domain false) (Rows.modintFloorsSpec.post enc Try.prog Try.f7 false true false false) := by
  refine returnsInHanded_of_change (C := Try.checked) own started (by kernel_rfl) Try.func7
    (ChangeSpec.witness6 (enc := enc) (C := Try.checked) false ⟨#[], #[.agg #[.bool false, .slice none 0 0], .agg #[.bool false, .slice none 0 0]], []⟩ 8 (by kernel_rfl) (by kernel_rfl) (by kernel_rfl) (by kernel_rfl)) ?_
  intro W base args ds gs before hval0 hW hcnd _
  have hval : ∀ (j : Nat) t v, Try.f7.params[j]? = some t → args[j]? = some v → Value.okWide Try.prog W .any base t v := hval0
  have hW' := hW
  obtain ⟨p, q, hA0, hV, rfl, hfz, hnd⟩ := hW
  have hA : DataW.TrodAll enc Try.prog W 0 (fun _ => true) true Try.f7.params.toList args.toList ds p := hA0
  rw [Try.params7] at hA hval
  obtain ⟨v0, vs0, d0, ds0, p0, q0, hargs, rfl, rfl, h0, r0⟩ := trodAll_cons hA
  obtain ⟨v1, vs1, d1, ds1, p1, q1, rfl, rfl, rfl, h1, r1⟩ := trodAll_cons r0
  obtain ⟨rfl, rfl, rfl⟩ := trodAll_nil r1
  obtain rfl : args = #[v0, v1] := by cases args; simp_all
  obtain ⟨rfl, rfl⟩ := trodVars_none hV
  have k0 := h0
  have lt0 : ∀ x ∈ p0, x.block < W.heap.size := by obtain ⟨m, hm⟩ := k0; exact DataW.trod_lt m _ _ _ hm
  obtain ⟨n0, a0, len0, cap0, z0, hv0, w0⟩ := open_whole (hval 0 25 v0 rfl rfl) h0
  subst hv0
  have k1 := h1
  have lt1 : ∀ x ∈ p1, x.block < W.heap.size := by obtain ⟨m, hm⟩ := k1; exact DataW.trod_lt m _ _ _ hm
  obtain ⟨n1, a1, len1, cap1, z1, hv1, w1⟩ := open_whole (hval 1 25 v1 rfl rfl) h1
  subst hv1
  clear hA0 hval0
  refine (walk n0 a0 len0 cap0 z0 n1 a1 len1 cap1 z1 W w0 w1).mono fun e W' ⟨he, bel⟩ => ?_
  subst he
  exact ⟨_, rfl, _, _, _, [], _, [], hW', trodAll_mk1 (shut_bool Try.underlying4 _), (trodAll_cons_mk (Below.trod laidOut (by kernel_rfl) (of_decide_eq_true (by kernel_rfl)) k0 bel lt0) (trodAll_cons_mk (Below.trod laidOut (by kernel_rfl) (of_decide_eq_true (by kernel_rfl)) k1 bel lt1) trodAll_mk0)), rfl, bel.frame _, fun h => by cases h⟩

theorem over : Rows.modintFloorsRow.holds Try.pinned (OpenSpec.ofChange Rows.modintFloorsSpec) :=
  OpenClaim.holds_of_wide 7 Try.f7 rfl rfl rfl rfl rfl rfl rfl ⟨rfl, rfl, rfl, rfl, rfl⟩ rfl rfl rfl rfl rfl (by kernel_rfl) Try.func7 (by kernel_rfl)
    (of_decide_eq_true (by kernel_rfl)) (by unfold Func.isWrapper; first | (rw [if_pos (by decide +kernel)]; kernel_rfl) | (rw [if_neg (by decide +kernel)]; exact ⟨rfl, rfl⟩))
    (fun os started H enc _ => lifted os started H enc)

theorem proved : Rows.ModintFloorsSaid := over
end Go.Proofs.Ytaipkganijofjaa.modintFloors
namespace Go.Proofs.Ytaipkganijofjaa
theorem modintFloors_holds : Rows.ModintFloorsSaid := modintFloors.proved
#print axioms modintFloors_holds
end Go.Proofs.Ytaipkganijofjaa

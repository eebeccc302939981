/-
  The statement NatBack holds of the code at the commit that is named beside it, for every input.
-/
import Derived.Test.YtennhoalgclhjacRows
import Derived.Test.YtennhoalgclhjacFew
import Derived.Test.YtennhoalgclhjacBack
import Derived.WalkKit
import Derived.ProofKit
import Derived.OpenShut
import Derived.ShutString
import Derived.ChangeOld
import Derived.Below
namespace Go.Proofs.Ytennhoalgclhjac.natBack
open Go.ChangeShapes Go.WideShapes Go.ChangeAt Go.RowKit
open Go.ChangeMaps (open_string shut_string)
set_option linter.unusedVariables false

theorem own : ownKnob Try.prog.godebug = none := by kernel_rfl
theorem laidOut : laidOutB Try.prog = true := by kernel_rfl

set_option maxHeartbeats 400000 in
theorem walk (a0 : Option Addr) (len0 cap0 : Nat) (z0 : List Int) (a1 : Option Addr) (len1 cap1 : Nat) (z1 : List Int) (w : World) (w0 : IsRow .u64 w a0 len0 cap0 z0) (w1 : IsRow .u64 w a1 len1 cap1 z1) :
    Calls Try.prog 5 #[.slice a0 len0 cap0, .slice a1 len1 cap1] w fun e w' => e = .returned (.bool true) ∧ Below w.heap.size w w' := by
  have A := Nums.of_row w0
  have B := Nums.of_row w1
  generalize z0.take len0 = zs at A
  generalize z1.take len1 = ys at B
  have hzd := A.digs
  have hyd := B.digs
  have hyl := B.hlen
  clear w0 w1
  cases hr : rightB zs with
  | false =>
    cases hr' : rightB ys with
    | false =>
      go_enter Try.func5, Try.ntmps5
      go_wp2_with fail
      refine (refRight_any _ _ _ _ _ A).mono ?_
      rintro e w1 ⟨rfl, hw1⟩
      subst hw1
      go_wp2_with fail
      refine (refRight_any _ _ _ _ _ B).mono ?_
      rintro e w2 ⟨rfl, hw2⟩
      subst hw2
      go_wp2_with fail
      go_ret
      exact ⟨rfl, Below.refl _ _⟩
    | true =>
      go_enter Try.func5, Try.ntmps5
      go_wp2_with fail
      refine (refRight_any _ _ _ _ _ A).mono ?_
      rintro e w1 ⟨rfl, hw1⟩
      subst hw1
      go_wp2_with fail
      refine (refRight_any _ _ _ _ _ B).mono ?_
      rintro e w2 ⟨rfl, hw2⟩
      subst hw2
      go_wp2_with fail
      go_ret
      exact ⟨rfl, Below.refl _ _⟩
  | true =>
    cases hr' : rightB ys with
    | false =>
      go_enter Try.func5, Try.ntmps5
      go_wp2_with fail
      refine (refRight_any _ _ _ _ _ A).mono ?_
      rintro e w1 ⟨rfl, hw1⟩
      subst hw1
      go_wp2_with fail
      refine (refRight_any _ _ _ _ _ B).mono ?_
      rintro e w2 ⟨rfl, hw2⟩
      subst hw2
      go_wp2_with fail
      go_ret
      exact ⟨rfl, Below.refl _ _⟩
    | true =>
      by_cases h0 : len1 = 0
      · subst h0
        clear hyl
        go_enter Try.func5, Try.ntmps5
        go_wp2_with fail
        refine (refRight_any _ _ _ _ _ A).mono ?_
        rintro e w1 ⟨rfl, hw1⟩
        subst hw1
        go_wp2_with fail
        refine (refRight_any _ _ _ _ _ B).mono ?_
        rintro e w2 ⟨rfl, hw2⟩
        subst hw2
        go_wp2_with fail
        go_ret
        exact ⟨rfl, Below.refl _ _⟩
      · have HB : Hid (∀ qs rs ps ss e pe se, ResDiv zs ys qs rs e → Res2 qs ys (val 18446744073709551616 qs * val 18446744073709551616 ys) ps pe → Res2 ps rs (val 18446744073709551616 ps + val 18446744073709551616 rs) ss se → e = 0 ∧ pe = 0 ∧ se = 0 ∧ ss = zs ∧ cmpN rs ys = -1) :=
          fun _ _ _ _ _ _ _ => back_ok hzd hyd hr hr' (by omega)
        have hb0 : ((len1 : Int) == 0) = false := by simp; omega
        clear hyl h0
        go_enter Try.func5, Try.ntmps5
        go_wp2_with fail
        refine (refRight_any _ _ _ _ _ A).mono ?_
        rintro e w1 ⟨rfl, hw1⟩
        subst hw1
        go_wp2_with fail
        refine (refRight_any _ _ _ _ _ B).mono ?_
        rintro e v0 ⟨rfl, hw2⟩
        subst hw2
        go_wp2_with fail
        clear hr hr'
        refine (div_any _ _ _ _ _ _ _ _ _ A B).mono ?_
        rintro e v1 ⟨a1, k1, c1, qs, a2, k2, c2, rs, err, rfl, Q, R, hd, -, -, -, hb⟩
        replace A := A.below hb
        replace B := B.below hb
        have HD : Hid (ResDiv zs ys qs rs err) := hd
        have hB1 := hb
        clear hd hb
        go_wp2_with fail
        refine (mul_any _ _ _ _ _ _ _ _ _ Q B).mono ?_
        rintro e v2 ⟨pa, pn, pc, ps, pe, rfl, P, hpr, -, hb⟩
        have HP : Hid (Res2 qs ys (val 18446744073709551616 qs * val 18446744073709551616 ys) ps pe) := hpr
        replace A := A.below hb
        replace B := B.below hb
        replace R := R.below hb
        have hB2 := hB1.trans (hb.mono hB1.size)
        clear hpr hb hB1 Q
        go_wp2_with fail
        refine (add_any _ _ _ _ _ _ _ _ _ P R).mono ?_
        rintro e v3 ⟨sa, sn, sc, ss, se, rfl, S, hsr, -, hb⟩
        obtain ⟨e1, e2, e3, e4, e5⟩ := HB.out _ _ _ _ _ _ _ HD.out HP.out hsr
        subst e1
        subst e2
        subst e3
        subst e4
        have HC : Hid (cmpN rs ys = -1) := e5
        replace A := A.below hb
        replace B := B.below hb
        replace R := R.below hb
        have hB3 := hB2.trans (hb.mono hB2.size)
        clear hsr hb hB2 P HP HD HB e5
        go_wp2_with fail
        refine (same_any _ _ _ _ _ _ _ _ _ S A).mono ?_
        rintro e v4 ⟨rfl, hb⟩
        rw [sameB_self]
        replace B := B.below hb
        replace R := R.below hb
        have hB4 := hB3.trans (hb.mono hB3.size)
        clear hb hB3 S A
        go_wp2_with fail
        refine (cmp_any _ _ _ _ _ _ _ _ _ R B).mono ?_
        rintro e v5 ⟨rfl, hb⟩
        rw [HC.out]
        have hB5 := hB4.trans (hb.mono hB4.size)
        clear hb hB4 R B HC
        have L1 := Nums.lit1 v5 1 (by omega) 29
        have b1 := (Below.refl (v5.alloc (.cells #[.int .u64 1] 29)).heap.size (v5.alloc (.cells #[.int .u64 1] 29))).alloc (Nat.le_refl _) (.cells #[.int .u64 1] 29)
        have L2 := Nums.lit1 (v5.alloc (.cells #[.int .u64 1] 29)) 1 (by omega) 29
        replace L1 := L1.below b1
        simp only [World.size_alloc] at L2
        have hB6 := (hB5.alloc hB5.size (.cells #[.int .u64 1] 29)).alloc (by have := hB5.size; simp; omega) (.cells #[.int .u64 1] 29)
        clear b1 hB5
        go_wp2_with fail
        refine (div_any _ _ _ _ _ _ [1] [1] _ L1 L2).mono ?_
        rintro e v6 ⟨a3, k3, c3, os, a4, k4, c4, ts, err, rfl, Q, R, hd, -, -, -, hb⟩
        have h1 : k3 = 1 := by
          have := resdiv_one hd
          have := Q.hlen
          omega
        subst h1
        have hB7 := hB6.trans (hb.mono hB6.size)
        clear hd Q R hb hB6 L1 L2
        go_wp2_with fail
        go_ret
        exact ⟨by simp, hB7⟩

set_option maxRecDepth 100000 in
theorem lifted (os : Os) (started : os.Started) (H : Type) (enc : TypeId × Value → H) :
    ReturnsInHanded {} Try.checked os 5 .any (Rows.natBackSpec.pre6 enc Try.prog Try.f5 Rows.natBackRow.domain false) (Rows.natBackSpec.post enc Try.prog Try.f5 false true false false) := by
  refine returnsInHanded_of_change (C := Try.checked) own started (by kernel_rfl) Try.func5
    (ChangeSpec.witness6 (enc := enc) (C := Try.checked) false ⟨#[], #[.slice none 0 0, .slice none 0 0], []⟩ 8 (by kernel_rfl) (by kernel_rfl) (by kernel_rfl) (by kernel_rfl)) ?_
  intro W base args ds gs before hval0 hW hcnd _
  have hval : ∀ (j : Nat) t v, Try.f5.params[j]? = some t → args[j]? = some v → Value.okWide Try.prog W .any base t v := hval0
  have hW' := hW
  obtain ⟨p, q, hA0, hV, rfl, hfz, hnd⟩ := hW
  have hA : DataW.TrodAll enc Try.prog W 0 (fun _ => true) true Try.f5.params.toList args.toList ds p := hA0
  rw [Try.params5] at hA hval
  obtain ⟨v0, vs0, d0, ds0, p0, q0, hargs, rfl, rfl, h0, r0⟩ := trodAll_cons hA
  obtain ⟨v1, vs1, d1, ds1, p1, q1, rfl, rfl, rfl, h1, r1⟩ := trodAll_cons r0
  obtain ⟨rfl, rfl, rfl⟩ := trodAll_nil r1
  obtain rfl : args = #[v0, v1] := by cases args; simp_all
  obtain ⟨rfl, rfl⟩ := trodVars_none hV
  obtain ⟨a0, len0, cap0, rfl⟩ := okWide_slice Try.underlying23 (hval 0 23 v0 rfl rfl)
  have k0 := h0
  have lt0 : ∀ x ∈ p0, x.block < W.heap.size := by obtain ⟨m, hm⟩ := k0; exact DataW.trod_lt m _ _ _ hm
  obtain ⟨z0, w0⟩ : ∃ zs, IsRow .u64 W a0 len0 cap0 zs := by
    obtain ⟨fuel, hf⟩ := h0
    rcases open_ints Try.underlying23 Try.underlying29 (by kernel_rfl) hf with ⟨hcs, _⟩ | ⟨x, l, c, zs, hcs, _, hl, hm, hz, _, hcell, hwz⟩
    · simp [Value.cells] at hcs
      obtain ⟨rfl, rfl, rfl⟩ := hcs
      exact ⟨[], .inl ⟨rfl, rfl, rfl, rfl⟩⟩
    · simp [Value.cells] at hcs
      obtain ⟨rfl, rfl, rfl⟩ := hcs
      exact ⟨zs, .inr ⟨_, rfl, hl, hm, by simpa using hz, hcell, hwz⟩⟩
  obtain ⟨a1, len1, cap1, rfl⟩ := okWide_slice Try.underlying23 (hval 1 23 v1 rfl rfl)
  have k1 := h1
  have lt1 : ∀ x ∈ p1, x.block < W.heap.size := by obtain ⟨m, hm⟩ := k1; exact DataW.trod_lt m _ _ _ hm
  obtain ⟨z1, w1⟩ : ∃ zs, IsRow .u64 W a1 len1 cap1 zs := by
    obtain ⟨fuel, hf⟩ := h1
    rcases open_ints Try.underlying23 Try.underlying29 (by kernel_rfl) hf with ⟨hcs, _⟩ | ⟨x, l, c, zs, hcs, _, hl, hm, hz, _, hcell, hwz⟩
    · simp [Value.cells] at hcs
      obtain ⟨rfl, rfl, rfl⟩ := hcs
      exact ⟨[], .inl ⟨rfl, rfl, rfl, rfl⟩⟩
    · simp [Value.cells] at hcs
      obtain ⟨rfl, rfl, rfl⟩ := hcs
      exact ⟨zs, .inr ⟨_, rfl, hl, hm, by simpa using hz, hcell, hwz⟩⟩
  clear hA0 hval0
  refine (walk a0 len0 cap0 z0 a1 len1 cap1 z1 W w0 w1).mono fun e W' ⟨he, bel⟩ => ?_
  subst he
  exact ⟨_, rfl, _, _, _, [], _, [], hW', trodAll_mk1 (shut_bool Try.underlying4 _), (trodAll_cons_mk (Below.trod laidOut (by kernel_rfl) (of_decide_eq_true (by kernel_rfl)) k0 bel lt0) (trodAll_cons_mk (Below.trod laidOut (by kernel_rfl) (of_decide_eq_true (by kernel_rfl)) k1 bel lt1) trodAll_mk0)), rfl, bel.frame _, fun h => by cases h⟩

theorem over : Rows.natBackRow.holds Try.pinned (OpenSpec.ofChange Rows.natBackSpec) :=
  OpenClaim.holds_of_wide 5 Try.f5 rfl rfl rfl rfl rfl rfl rfl ⟨rfl, rfl, rfl, rfl, rfl⟩ rfl rfl rfl rfl rfl (by kernel_rfl) Try.func5 (by kernel_rfl)
    (of_decide_eq_true (by kernel_rfl)) (by unfold Func.isWrapper; first | (rw [if_pos (by decide +kernel)]; kernel_rfl) | (rw [if_neg (by decide +kernel)]; exact ⟨rfl, rfl⟩))
    (fun os started H enc _ => lifted os started H enc)

theorem proved : Rows.NatBackSaid := over
end Go.Proofs.Ytennhoalgclhjac.natBack
namespace Go.Proofs.Ytennhoalgclhjac
theorem natBack_holds : Rows.NatBackSaid := natBack.proved
#print axioms natBack_holds
end Go.Proofs.Ytennhoalgclhjac

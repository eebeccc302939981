/-
  The statement NatAround holds of the code at the commit that is named beside it, for every input.
-/
import Derived.Test.YtennhoalgclhjacRows
import Derived.Test.YtennhoalgclhjacAround
import Derived.WalkKit
import Derived.ProofKit
import Derived.OpenShut
import Derived.ShutString
import Derived.ChangeOld
import Derived.Below
namespace Go.Proofs.Ytennhoalgclhjac.natAround
open Go.ChangeShapes Go.WideShapes Go.ChangeAt Go.RowKit
open Go.ChangeMaps (open_string shut_string)
set_option linter.unusedVariables false

theorem own : ownKnob Try.prog.godebug = none := by kernel_rfl
theorem laidOut : laidOutB Try.prog = true := by kernel_rfl

set_option maxHeartbeats 400000 in
theorem walk (a0 : Option Addr) (len0 cap0 : Nat) (z0 : List Int) (a1 : Option Addr) (len1 cap1 : Nat) (z1 : List Int) (a2 : Option Addr) (len2 cap2 : Nat) (z2 : List Int) (w : World) (w0 : IsRow .u64 w a0 len0 cap0 z0) (w1 : IsRow .u64 w a1 len1 cap1 z1) (w2 : IsRow .u64 w a2 len2 cap2 z2) :
    Calls Try.prog 3 #[.slice a0 len0 cap0, .slice a1 len1 cap1, .slice a2 len2 cap2] w fun e w' => e = .returned (.bool true) ∧ Below w.heap.size w w' := by
  have H0 := Nums.of_row w0
  have H1 := Nums.of_row w1
  have H2 := Nums.of_row w2
  have F := few_three a0 a1 a2 len0 cap0 len1 cap1 len2 cap2 _ _ _ w H0 H1 H2
  generalize z0.take len0 = aas at H0 F
  generalize z1.take len1 = bs at H1 F
  generalize z2.take len2 = cs at H2 F
  cases hf : fewB [len0, len1, len2] with
  | false =>
    rw [hf] at F
    go_enter Try.func3, Try.ntmps3
    go_wp2_with fail
    refine F.mono ?_
    rintro e w' ⟨rfl, -, -, -, hb⟩
    go_wp2_with fail
    go_ret
    exact ⟨rfl, hb⟩
  | true =>
    rw [hf] at F
    clear w0 w1 w2 H0 H1 H2 hf
    go_enter Try.func3, Try.ntmps3
    go_wp2_with fail
    refine F.mono ?_
    rintro e v0 ⟨rfl, A, B, C, hB0⟩
    clear F
    go_wp2_with fail
    refine (add_any _ _ _ _ _ _ _ _ _ A B).mono ?_
    rintro e v1 ⟨xa, xn, xc, xs, xe, rfl, X, hxr, -, hb⟩
    have HX : Hid (Res2 aas bs (val 18446744073709551616 aas + val 18446744073709551616 bs) xs xe) := hxr
    replace A := A.below hb
    replace B := B.below hb
    replace C := C.below hb
    have hB1 := hB0.trans (hb.mono hB0.size)
    clear hxr hb hB0
    go_wp2_with fail
    refine (add_any _ _ _ _ _ _ _ _ _ B A).mono ?_
    rintro e v2 ⟨ya, yn, yc, ks, ye, rfl, Y, hyr, -, hb⟩
    obtain ⟨e1, e2⟩ := HX.out.unique (hyr.swap (Int.add_comm _ _))
    subst e1
    subst e2
    replace A := A.below hb
    replace B := B.below hb
    replace C := C.below hb
    replace X := X.below hb
    have hB2 := hB1.trans (hb.mono hB1.size)
    clear hyr hb hB1
    go_wp2_with fail
    refine (same_any _ _ _ _ _ _ _ _ _ X Y).mono ?_
    rintro e v3 ⟨rfl, hb⟩
    rw [sameB_self]
    replace A := A.below hb
    replace B := B.below hb
    replace C := C.below hb
    replace X := X.below hb
    have hB3 := hB2.trans (hb.mono hB2.size)
    clear hb hB2 Y
    have b4 := (Below.refl v3.heap.size v3).alloc (Nat.le_refl _) (.cells #[.int .u64 1] 29)
    have L1 := Nums.lit1 v3 1 (by omega) 29
    have hB4 := hB3.alloc hB3.size (.cells #[.int .u64 1] 29)
    replace A := A.below b4
    replace B := B.below b4
    replace C := C.below b4
    replace X := X.below b4
    clear b4 hB3
    go_wp2_with fail
    refine (add_any _ _ _ _ _ _ [1] [] _ L1 (Nums.nil _)).mono ?_
    rintro e v4 ⟨oa, on, oc, os, oe, rfl, ho, hor, -, hb⟩
    have h1 : on = 1 := by
      have := res_one (by simp [val]) (show Res (val 18446744073709551616 [1] + val 18446744073709551616 []) os oe from hor)
      have := ho.hlen
      omega
    subst h1
    replace A := A.below hb
    replace B := B.below hb
    replace C := C.below hb
    replace X := X.below hb
    have hB5 := hB4.trans (hb.mono hB4.size)
    clear hor ho hb hB4 L1
    have hne : (xe != xe) = false := by simp
    go_wp2_with fail
    refine (add_any _ _ _ _ _ _ _ _ _ X C).mono ?_
    rintro e v5 ⟨ua, un, uc, us, ue, rfl, U, hur, -, hb⟩
    have HU : Hid (Res2 xs cs (val 18446744073709551616 xs + val 18446744073709551616 cs) us ue) := hur
    replace A := A.below hb
    replace B := B.below hb
    replace C := C.below hb
    replace X := X.below hb
    have hB6 := hB5.trans (hb.mono hB5.size)
    clear hur hb hB5
    go_wp2_with fail
    refine (add_any _ _ _ _ _ _ _ _ _ B C).mono ?_
    rintro e v6 ⟨va, vn, vc, vvs, ve, rfl, V, hvr, -, hb⟩
    have HV : Hid (Res2 bs cs (val 18446744073709551616 bs + val 18446744073709551616 cs) vvs ve) := hvr
    replace A := A.below hb
    replace B := B.below hb
    replace C := C.below hb
    replace X := X.below hb
    replace U := U.below hb
    have hB7 := hB6.trans (hb.mono hB6.size)
    clear hvr hb hB6
    go_wp2_with fail
    refine (add_any _ _ _ _ _ _ _ _ _ A V).mono ?_
    rintro e v7 ⟨qa, qn, qc, qs, qe, rfl, Q, hqr, -, hb⟩
    have HQ : Hid (Res2 aas vvs (val 18446744073709551616 aas + val 18446744073709551616 vvs) qs qe) := hqr
    replace A := A.below hb
    replace B := B.below hb
    replace X := X.below hb
    replace U := U.below hb
    have hB8 := hB7.trans (hb.mono hB7.size)
    clear hqr hb hB7 C V
    by_cases h0 : xe = 0
    · subst h0
      have HS : Hid (ResSub xs bs aas 0) := around_sub HX.out A.digs
      by_cases h1 : ue = 0 ∧ ve = 0 ∧ qe = 0
      · obtain ⟨rfl, rfl, rfl⟩ := h1
        have hsame : us = qs := around_same HX.out HU.out HV.out HQ.out
        subst hsame
        go_wp2_with fail
        refine (same_any _ _ _ _ _ _ _ _ _ U Q).mono ?_
        rintro e v8 ⟨rfl, hb⟩
        rw [sameB_self]
        have A1 := A.below hb
        have Y1 := B.below hb
        have X1 := X.below hb
        have hBn := hB8.trans (hb.mono hB8.size)
        clear hb hB8 U Q A B X HX HU HV HQ
        go_wp2_with fail
        refine (sub_any _ _ _ _ _ _ _ _ _ X1 Y1).mono ?_
        rintro e v9 ⟨za, zn, zc, ks, ze, rfl, hz, hzr, -, hb⟩
        obtain ⟨e1, e2⟩ := hzr.unique HS.out
        subst e1
        subst e2
        have hB9 := hBn.trans (hb.mono hBn.size)
        have A1' := A1.below hb
        clear hzr hb HS X1 Y1
        go_wp2_with fail
        refine (same_any _ _ _ _ _ _ _ _ _ hz A1').mono ?_
        rintro e v10 ⟨rfl, hb⟩
        rw [sameB_self]
        have hB10 := hB9.trans (hb.mono hB9.size)
        go_wp2_with fail
        go_ret
        exact ⟨by simp, hB10⟩
      · have A1 := A
        have Y1 := B
        have X1 := X
        have hBn := hB8
        clear hB8 U Q A B X HX HU HV HQ
        have ht : (ue == 0 && (ve == 0 && qe == 0)) = false := by
          by_cases q1 : ue = 0 <;> by_cases q2 : ve = 0 <;> by_cases q3 : qe = 0 <;> simp_all
        clear h1
        by_cases q1 : ue = 0
        · subst q1
          by_cases q2 : ve = 0
          · subst q2
            have q3 : (qe == 0) = false := by simpa using ht
            clear ht
            go_wp2_with fail
            refine (sub_any _ _ _ _ _ _ _ _ _ X1 Y1).mono ?_
            rintro e v9 ⟨za, zn, zc, ks, ze, rfl, hz, hzr, -, hb⟩
            obtain ⟨e1, e2⟩ := hzr.unique HS.out
            subst e1
            subst e2
            have hB9 := hBn.trans (hb.mono hBn.size)
            have A1' := A1.below hb
            clear hzr hb HS X1 Y1
            go_wp2_with fail
            refine (same_any _ _ _ _ _ _ _ _ _ hz A1').mono ?_
            rintro e v10 ⟨rfl, hb⟩
            rw [sameB_self]
            have hB10 := hB9.trans (hb.mono hB9.size)
            go_wp2_with fail
            go_ret
            exact ⟨by simp, hB10⟩
          · have q3 : (ve == 0) = false := by simp [q2]
            clear ht q2
            go_wp2_with fail
            refine (sub_any _ _ _ _ _ _ _ _ _ X1 Y1).mono ?_
            rintro e v9 ⟨za, zn, zc, ks, ze, rfl, hz, hzr, -, hb⟩
            obtain ⟨e1, e2⟩ := hzr.unique HS.out
            subst e1
            subst e2
            have hB9 := hBn.trans (hb.mono hBn.size)
            have A1' := A1.below hb
            clear hzr hb HS X1 Y1
            go_wp2_with fail
            refine (same_any _ _ _ _ _ _ _ _ _ hz A1').mono ?_
            rintro e v10 ⟨rfl, hb⟩
            rw [sameB_self]
            have hB10 := hB9.trans (hb.mono hB9.size)
            go_wp2_with fail
            go_ret
            exact ⟨by simp, hB10⟩
        · have q3 : (ue == 0) = false := by simp [q1]
          clear ht q1
          go_wp2_with fail
          refine (sub_any _ _ _ _ _ _ _ _ _ X1 Y1).mono ?_
          rintro e v9 ⟨za, zn, zc, ks, ze, rfl, hz, hzr, -, hb⟩
          obtain ⟨e1, e2⟩ := hzr.unique HS.out
          subst e1
          subst e2
          have hB9 := hBn.trans (hb.mono hBn.size)
          have A1' := A1.below hb
          clear hzr hb HS X1 Y1
          go_wp2_with fail
          refine (same_any _ _ _ _ _ _ _ _ _ hz A1').mono ?_
          rintro e v10 ⟨rfl, hb⟩
          rw [sameB_self]
          have hB10 := hB9.trans (hb.mono hB9.size)
          go_wp2_with fail
          go_ret
          exact ⟨by simp, hB10⟩
    · have hq : (xe == 0) = false := by simp [h0]
      have hq' : (xe != 0) = true := by simp [h0]
      clear h0 HX HU HV HQ
      go_wp2_with fail
      go_ret
      exact ⟨rfl, hB8⟩

set_option maxRecDepth 100000 in
theorem lifted (os : Os) (started : os.Started) (H : Type) (enc : TypeId × Value → H) :
    ReturnsInHanded {} Try.checked os 3 .any (Rows.natAroundSpec.pre6 enc Try.prog Try.f3 Rows.natAroundRow.domain false) (Rows.natAroundSpec.post enc Try.prog Try.f3 false true false false) := by
  refine returnsInHanded_of_change (C := Try.checked) own started (by kernel_rfl) Try.func3
    (ChangeSpec.witness6 (enc := enc) (C := Try.checked) false ⟨#[], #[.slice none 0 0, .slice none 0 0, .slice none 0 0], []⟩ 8 (by kernel_rfl) (by kernel_rfl) (by kernel_rfl) (by kernel_rfl)) ?_
  intro W base args ds gs before hval0 hW hcnd _
  have hval : ∀ (j : Nat) t v, Try.f3.params[j]? = some t → args[j]? = some v → Value.okWide Try.prog W .any base t v := hval0
  have hW' := hW
  obtain ⟨p, q, hA0, hV, rfl, hfz, hnd⟩ := hW
  have hA : DataW.TrodAll enc Try.prog W 0 (fun _ => true) true Try.f3.params.toList args.toList ds p := hA0
  rw [Try.params3] at hA hval
  obtain ⟨v0, vs0, d0, ds0, p0, q0, hargs, rfl, rfl, h0, r0⟩ := trodAll_cons hA
  obtain ⟨v1, vs1, d1, ds1, p1, q1, rfl, rfl, rfl, h1, r1⟩ := trodAll_cons r0
  obtain ⟨v2, vs2, d2, ds2, p2, q2, rfl, rfl, rfl, h2, r2⟩ := trodAll_cons r1
  obtain ⟨rfl, rfl, rfl⟩ := trodAll_nil r2
  obtain rfl : args = #[v0, v1, v2] := by cases args; simp_all
  obtain ⟨rfl, rfl⟩ := trodVars_none hV
  obtain ⟨a0, len0, cap0, rfl⟩ := okWide_slice Try.underlying23 (hval 0 23 v0 rfl rfl)
  have k0 := h0
  have lt0 : ∀ x ∈ p0, x.block < W.heap.size := by obtain ⟨m, hm⟩ := k0; exact DataW.trod_lt m _ _ _ hm
  obtain ⟨z0, w0⟩ : ∃ zs, IsRow .u64 W a0 len0 cap0 zs := by
    obtain ⟨fuel, hf⟩ := h0
    rcases open_ints Try.underlying23 Try.underlying29 (by kernel_rfl) hf with ⟨hcs, _⟩ | ⟨x, l, c, zs, hcs, _, hl, hm, hz, _, hcell, hwz⟩
    · simp [Value.cells] at hcs
      obtain ⟨rfl, rfl, rfl⟩ := hcs
      exact ⟨[], .inl ⟨rfl, rfl, rfl, rfl⟩⟩
    · simp [Value.cells] at hcs
      obtain ⟨rfl, rfl, rfl⟩ := hcs
      exact ⟨zs, .inr ⟨_, rfl, hl, hm, by simpa using hz, hcell, hwz⟩⟩
  obtain ⟨a1, len1, cap1, rfl⟩ := okWide_slice Try.underlying23 (hval 1 23 v1 rfl rfl)
  have k1 := h1
  have lt1 : ∀ x ∈ p1, x.block < W.heap.size := by obtain ⟨m, hm⟩ := k1; exact DataW.trod_lt m _ _ _ hm
  obtain ⟨z1, w1⟩ : ∃ zs, IsRow .u64 W a1 len1 cap1 zs := by
    obtain ⟨fuel, hf⟩ := h1
    rcases open_ints Try.underlying23 Try.underlying29 (by kernel_rfl) hf with ⟨hcs, _⟩ | ⟨x, l, c, zs, hcs, _, hl, hm, hz, _, hcell, hwz⟩
    · simp [Value.cells] at hcs
      obtain ⟨rfl, rfl, rfl⟩ := hcs
      exact ⟨[], .inl ⟨rfl, rfl, rfl, rfl⟩⟩
    · simp [Value.cells] at hcs
      obtain ⟨rfl, rfl, rfl⟩ := hcs
      exact ⟨zs, .inr ⟨_, rfl, hl, hm, by simpa using hz, hcell, hwz⟩⟩
  obtain ⟨a2, len2, cap2, rfl⟩ := okWide_slice Try.underlying23 (hval 2 23 v2 rfl rfl)
  have k2 := h2
  have lt2 : ∀ x ∈ p2, x.block < W.heap.size := by obtain ⟨m, hm⟩ := k2; exact DataW.trod_lt m _ _ _ hm
  obtain ⟨z2, w2⟩ : ∃ zs, IsRow .u64 W a2 len2 cap2 zs := by
    obtain ⟨fuel, hf⟩ := h2
    rcases open_ints Try.underlying23 Try.underlying29 (by kernel_rfl) hf with ⟨hcs, _⟩ | ⟨x, l, c, zs, hcs, _, hl, hm, hz, _, hcell, hwz⟩
    · simp [Value.cells] at hcs
      obtain ⟨rfl, rfl, rfl⟩ := hcs
      exact ⟨[], .inl ⟨rfl, rfl, rfl, rfl⟩⟩
    · simp [Value.cells] at hcs
      obtain ⟨rfl, rfl, rfl⟩ := hcs
      exact ⟨zs, .inr ⟨_, rfl, hl, hm, by simpa using hz, hcell, hwz⟩⟩
  clear hA0 hval0
  refine (walk a0 len0 cap0 z0 a1 len1 cap1 z1 a2 len2 cap2 z2 W w0 w1 w2).mono fun e W' ⟨he, bel⟩ => ?_
  subst he
  exact ⟨_, rfl, _, _, _, [], _, [], hW', trodAll_mk1 (shut_bool Try.underlying4 _), (trodAll_cons_mk (Below.trod laidOut (by kernel_rfl) (of_decide_eq_true (by kernel_rfl)) k0 bel lt0) (trodAll_cons_mk (Below.trod laidOut (by kernel_rfl) (of_decide_eq_true (by kernel_rfl)) k1 bel lt1) (trodAll_cons_mk (Below.trod laidOut (by kernel_rfl) (of_decide_eq_true (by kernel_rfl)) k2 bel lt2) trodAll_mk0))), rfl, bel.frame _, fun h => by cases h⟩

theorem over : Rows.natAroundRow.holds Try.pinned (OpenSpec.ofChange Rows.natAroundSpec) :=
  OpenClaim.holds_of_wide 3 Try.f3 rfl rfl rfl rfl rfl rfl rfl ⟨rfl, rfl, rfl, rfl, rfl⟩ rfl rfl rfl rfl rfl (by kernel_rfl) Try.func3 (by kernel_rfl)
    (of_decide_eq_true (by kernel_rfl)) (by unfold Func.isWrapper; first | (rw [if_pos (by decide +kernel)]; kernel_rfl) | (rw [if_neg (by decide +kernel)]; exact ⟨rfl, rfl⟩))
    (fun os started H enc _ => lifted os started H enc)

theorem proved : Rows.NatAroundSaid := over
end Go.Proofs.Ytennhoalgclhjac.natAround
namespace Go.Proofs.Ytennhoalgclhjac
theorem natAround_holds : Rows.NatAroundSaid := natAround.proved
#print axioms natAround_holds
end Go.Proofs.Ytennhoalgclhjac

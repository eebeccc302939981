/-
  The statement NatSpreads holds of the code at the commit that is named beside it, for every input.
-/
import Derived.Test.YtennhoalgclhjacRows
import Derived.Test.YtennhoalgclhjacSpreads
import Derived.WalkKit
import Derived.ProofKit
import Derived.OpenShut
import Derived.ShutString
import Derived.ChangeOld
import Derived.Below
namespace Go.Proofs.Ytennhoalgclhjac.natSpreads
open Go.ChangeShapes Go.WideShapes Go.ChangeAt Go.RowKit
open Go.ChangeMaps (open_string shut_string)
set_option linter.unusedVariables false

theorem own : ownKnob Try.prog.godebug = none := by kernel_rfl
theorem laidOut : laidOutB Try.prog = true := by kernel_rfl

set_option maxHeartbeats 400000 in
theorem walk (a0 : Option Addr) (len0 cap0 : Nat) (z0 : List Int) (a1 : Option Addr) (len1 cap1 : Nat) (z1 : List Int) (a2 : Option Addr) (len2 cap2 : Nat) (z2 : List Int) (w : World) (w0 : IsRow .u64 w a0 len0 cap0 z0) (w1 : IsRow .u64 w a1 len1 cap1 z1) (w2 : IsRow .u64 w a2 len2 cap2 z2) :
    Calls Try.prog 4 #[.slice a0 len0 cap0, .slice a1 len1 cap1, .slice a2 len2 cap2] w fun e w' => e = .returned (.bool true) ∧ Below w.heap.size w w' := by
  have H0 := Nums.of_row w0
  have H1 := Nums.of_row w1
  have H2 := Nums.of_row w2
  have F := few_three a0 a1 a2 len0 cap0 len1 cap1 len2 cap2 _ _ _ w H0 H1 H2
  generalize z0.take len0 = aas at H0 F
  generalize z1.take len1 = bs at H1 F
  generalize z2.take len2 = cs at H2 F
  cases hf : fewB [len0, len1, len2] with
  | false =>
    rw [hf] at F
    go_enter Try.func4, Try.ntmps4
    go_wp2_with fail
    refine F.mono ?_
    rintro e w' ⟨rfl, -, -, -, hb⟩
    go_wp2_with fail
    go_ret
    exact ⟨rfl, hb⟩
  | true =>
    rw [hf] at F
    clear w0 w1 w2 H0 H1 H2 hf
    go_enter Try.func4, Try.ntmps4
    go_wp2_with fail
    refine F.mono ?_
    rintro e v0 ⟨rfl, A, B, C, hB0⟩
    clear F
    have L1 := Nums.lit1 v0 1 (by omega) 29
    have b0 := (Below.refl v0.heap.size v0).alloc (Nat.le_refl _) (.cells #[.int .u64 1] 29)
    have b1 := (Below.refl (v0.alloc (.cells #[.int .u64 1] 29)).heap.size (v0.alloc (.cells #[.int .u64 1] 29))).alloc (Nat.le_refl _) (.cells #[.int .u64 1] 29)
    have L2 := Nums.lit1 (v0.alloc (.cells #[.int .u64 1] 29)) 1 (by omega) 29
    replace L1 := L1.below b1
    simp only [World.size_alloc] at L2
    replace A := (A.below b0).below b1
    replace B := (B.below b0).below b1
    replace C := (C.below b0).below b1
    have hB1 := (hB0.alloc hB0.size (.cells #[.int .u64 1] 29)).alloc (by have := hB0.size; simp; omega) (.cells #[.int .u64 1] 29)
    clear b0 b1 hB0
    go_wp2_with fail
    refine (mul_any _ _ _ _ _ _ [1] [1] _ L1 L2).mono ?_
    rintro e v1 ⟨oa, on, oc, os, oe, rfl, ho, hor, -, hb⟩
    have h1 : on = 1 := by
      have := res_one (by simp [val]) (show Res (val 18446744073709551616 [1] * val 18446744073709551616 [1]) os oe from hor)
      have := ho.hlen
      omega
    subst h1
    replace A := A.below hb
    replace B := B.below hb
    replace C := C.below hb
    have hB2 := hB1.trans (hb.mono hB1.size)
    clear hor ho hb hB1 L1 L2
    go_wp2_with fail
    refine (mul_any _ _ _ _ _ _ aas bs _ A B).mono ?_
    rintro e v2 ⟨xa, xn, xc, xs, xe, rfl, X, hxr, -, hb⟩
    have HX : Hid (Res2 aas bs (val 18446744073709551616 aas * val 18446744073709551616 bs) xs xe) := hxr
    replace A := A.below hb
    replace B := B.below hb
    replace C := C.below hb
    have hB3 := hB2.trans (hb.mono hB2.size)
    clear hxr hb hB2
    go_wp2_with fail
    refine (mul_any _ _ _ _ _ _ bs aas _ B A).mono ?_
    rintro e v3 ⟨ya, yn, yc, ks, ye, rfl, Y, hyr, -, hb⟩
    obtain ⟨e1, e2⟩ := HX.out.unique (hyr.swap (Int.mul_comm _ _))
    subst e1
    subst e2
    replace A := A.below hb
    replace B := B.below hb
    replace C := C.below hb
    replace X := X.below hb
    have hB4 := hB3.trans (hb.mono hB3.size)
    clear hyr hb hB3
    go_wp2_with fail
    refine (same_any _ _ _ _ _ _ _ _ _ X Y).mono ?_
    rintro e v4 ⟨rfl, hb⟩
    rw [sameB_self]
    replace A := A.below hb
    replace B := B.below hb
    replace C := C.below hb
    replace X := X.below hb
    have hB5 := hB4.trans (hb.mono hB4.size)
    clear hb hB4 Y
    have hne : (xe != xe) = false := by simp
    go_wp2_with fail
    refine (add_any _ _ _ _ _ _ bs cs _ B C).mono ?_
    rintro e v5 ⟨sa, sn, sc, ss, se, rfl, S, hsr, -, hb⟩
    have HS : Hid (Res2 bs cs (val 18446744073709551616 bs + val 18446744073709551616 cs) ss se) := hsr
    replace A := A.below hb
    replace B := B.below hb
    replace C := C.below hb
    replace X := X.below hb
    have hB6 := hB5.trans (hb.mono hB5.size)
    clear hsr hb hB5 B
    go_wp2_with fail
    refine (mul_any _ _ _ _ _ _ aas ss _ A S).mono ?_
    rintro e v6 ⟨ta, tn, tc, ts, te, rfl, T, htr, -, hb⟩
    have HT : Hid (Res2 aas ss (val 18446744073709551616 aas * val 18446744073709551616 ss) ts te) := htr
    replace A := A.below hb
    replace C := C.below hb
    replace X := X.below hb
    replace S := S.below hb
    have hB7 := hB6.trans (hb.mono hB6.size)
    clear htr hb hB6 S
    go_wp2_with fail
    refine (mul_any _ _ _ _ _ _ aas cs _ A C).mono ?_
    rintro e v7 ⟨ua, un, uc, us, ue, rfl, U, hur, -, hb⟩
    have HU : Hid (Res2 aas cs (val 18446744073709551616 aas * val 18446744073709551616 cs) us ue) := hur
    replace A := A.below hb
    replace C := C.below hb
    replace X := X.below hb
    replace T := T.below hb
    have hB8 := hB7.trans (hb.mono hB7.size)
    clear hur hb hB7 A C
    go_wp2_with fail
    refine (add_any _ _ _ _ _ _ xs us _ X U).mono ?_
    rintro e v8 ⟨pa, pn, pc, ps, pe, rfl, P, hpr, -, hb⟩
    have HP : Hid (Res2 xs us (val 18446744073709551616 xs + val 18446744073709551616 us) ps pe) := hpr
    replace X := X.below hb
    replace T := T.below hb
    replace U := U.below hb
    have hB9 := hB8.trans (hb.mono hB8.size)
    clear hpr hb hB8 X U
    by_cases q0 : xe = 0
    rotate_left
    · have q' : (xe != 0) = true := by simp [q0]
      clear q0
      go_wp2_with fail
      go_ret
      exact ⟨rfl, hB9⟩
    subst q0
    by_cases q1 : se = 0
    rotate_left
    · have q' : (se != 0) = true := by simp [q1]
      clear q1
      go_wp2_with fail
      go_ret
      exact ⟨rfl, hB9⟩
    subst q1
    by_cases q2 : te = 0
    rotate_left
    · have q' : (te != 0) = true := by simp [q2]
      clear q2
      go_wp2_with fail
      go_ret
      exact ⟨rfl, hB9⟩
    subst q2
    by_cases q3 : ue = 0
    rotate_left
    · have q' : (ue != 0) = true := by simp [q3]
      clear q3
      go_wp2_with fail
      go_ret
      exact ⟨rfl, hB9⟩
    subst q3
    by_cases q4 : pe = 0
    rotate_left
    · have q' : (pe != 0) = true := by simp [q4]
      clear q4
      go_wp2_with fail
      go_ret
      exact ⟨rfl, hB9⟩
    subst q4
    obtain rfl : ts = ps := spreads_same HX.out HS.out HT.out HU.out HP.out
    go_wp2_with fail
    refine (same_any _ _ _ _ _ _ _ _ _ T P).mono ?_
    rintro e v9 ⟨rfl, hb⟩
    rw [sameB_self]
    have hB10 := hB9.trans (hb.mono hB9.size)
    go_wp2_with fail
    go_ret
    exact ⟨rfl, hB10⟩

set_option maxRecDepth 100000 in
theorem lifted (os : Os) (started : os.Started) (H : Type) (enc : TypeId × Value → H) :
    ReturnsInHanded {} Try.checked os 4 .any (Rows.natSpreadsSpec.pre6 enc Try.prog Try.f4 Rows.natSpreadsRow.domain false) (Rows.natSpreadsSpec.post enc Try.prog Try.f4 false true false false) := by
  refine returnsInHanded_of_change (C := Try.checked) own started (by kernel_rfl) Try.func4
    (ChangeSpec.witness6 (enc := enc) (C := Try.checked) false ⟨#[], #[.slice none 0 0, .slice none 0 0, .slice none 0 0], []⟩ 8 (by kernel_rfl) (by kernel_rfl) (by kernel_rfl) (by kernel_rfl)) ?_
  intro W base args ds gs before hval0 hW hcnd _
  have hval : ∀ (j : Nat) t v, Try.f4.params[j]? = some t → args[j]? = some v → Value.okWide Try.prog W .any base t v := hval0
  have hW' := hW
  obtain ⟨p, q, hA0, hV, rfl, hfz, hnd⟩ := hW
  have hA : DataW.TrodAll enc Try.prog W 0 (fun _ => true) true Try.f4.params.toList args.toList ds p := hA0
  rw [Try.params4] at hA hval
  obtain ⟨v0, vs0, d0, ds0, p0, q0, hargs, rfl, rfl, h0, r0⟩ := trodAll_cons hA
  obtain ⟨v1, vs1, d1, ds1, p1, q1, rfl, rfl, rfl, h1, r1⟩ := trodAll_cons r0
  obtain ⟨v2, vs2, d2, ds2, p2, q2, rfl, rfl, rfl, h2, r2⟩ := trodAll_cons r1
  obtain ⟨rfl, rfl, rfl⟩ := trodAll_nil r2
  obtain rfl : args = #[v0, v1, v2] := by cases args; simp_all
  obtain ⟨rfl, rfl⟩ := trodVars_none hV
  obtain ⟨a0, len0, cap0, rfl⟩ := okWide_slice Try.underlying23 (hval 0 23 v0 rfl rfl)
  have k0 := h0
  have lt0 : ∀ x ∈ p0, x.block < W.heap.size := by obtain ⟨m, hm⟩ := k0; exact DataW.trod_lt m _ _ _ hm
  obtain ⟨z0, w0⟩ : ∃ zs, IsRow .u64 W a0 len0 cap0 zs := by
    obtain ⟨fuel, hf⟩ := h0
    rcases open_ints Try.underlying23 Try.underlying29 (by kernel_rfl) hf with ⟨hcs, _⟩ | ⟨x, l, c, zs, hcs, _, hl, hm, hz, _, hcell, hwz⟩
    · simp [Value.cells] at hcs
      obtain ⟨rfl, rfl, rfl⟩ := hcs
      exact ⟨[], .inl ⟨rfl, rfl, rfl, rfl⟩⟩
    · simp [Value.cells] at hcs
      obtain ⟨rfl, rfl, rfl⟩ := hcs
      exact ⟨zs, .inr ⟨_, rfl, hl, hm, by simpa using hz, hcell, hwz⟩⟩
  obtain ⟨a1, len1, cap1, rfl⟩ := okWide_slice Try.underlying23 (hval 1 23 v1 rfl rfl)
  have k1 := h1
  have lt1 : ∀ x ∈ p1, x.block < W.heap.size := by obtain ⟨m, hm⟩ := k1; exact DataW.trod_lt m _ _ _ hm
  obtain ⟨z1, w1⟩ : ∃ zs, IsRow .u64 W a1 len1 cap1 zs := by
    obtain ⟨fuel, hf⟩ := h1
    rcases open_ints Try.underlying23 Try.underlying29 (by kernel_rfl) hf with ⟨hcs, _⟩ | ⟨x, l, c, zs, hcs, _, hl, hm, hz, _, hcell, hwz⟩
    · simp [Value.cells] at hcs
      obtain ⟨rfl, rfl, rfl⟩ := hcs
      exact ⟨[], .inl ⟨rfl, rfl, rfl, rfl⟩⟩
    · simp [Value.cells] at hcs
      obtain ⟨rfl, rfl, rfl⟩ := hcs
      exact ⟨zs, .inr ⟨_, rfl, hl, hm, by simpa using hz, hcell, hwz⟩⟩
  obtain ⟨a2, len2, cap2, rfl⟩ := okWide_slice Try.underlying23 (hval 2 23 v2 rfl rfl)
  have k2 := h2
  have lt2 : ∀ x ∈ p2, x.block < W.heap.size := by obtain ⟨m, hm⟩ := k2; exact DataW.trod_lt m _ _ _ hm
  obtain ⟨z2, w2⟩ : ∃ zs, IsRow .u64 W a2 len2 cap2 zs := by
    obtain ⟨fuel, hf⟩ := h2
    rcases open_ints Try.underlying23 Try.underlying29 (by kernel_rfl) hf with ⟨hcs, _⟩ | ⟨x, l, c, zs, hcs, _, hl, hm, hz, _, hcell, hwz⟩
    · simp [Value.cells] at hcs
      obtain ⟨rfl, rfl, rfl⟩ := hcs
      exact ⟨[], .inl ⟨rfl, rfl, rfl, rfl⟩⟩
    · simp [Value.cells] at hcs
      obtain ⟨rfl, rfl, rfl⟩ := hcs
      exact ⟨zs, .inr ⟨_, rfl, hl, hm, by simpa using hz, hcell, hwz⟩⟩
  clear hA0 hval0
  refine (walk a0 len0 cap0 z0 a1 len1 cap1 z1 a2 len2 cap2 z2 W w0 w1 w2).mono fun e W' ⟨he, bel⟩ => ?_
  subst he
  exact ⟨_, rfl, _, _, _, [], _, [], hW', trodAll_mk1 (shut_bool Try.underlying4 _), (trodAll_cons_mk (Below.trod laidOut (by kernel_rfl) (of_decide_eq_true (by kernel_rfl)) k0 bel lt0) (trodAll_cons_mk (Below.trod laidOut (by kernel_rfl) (of_decide_eq_true (by kernel_rfl)) k1 bel lt1) (trodAll_cons_mk (Below.trod laidOut (by kernel_rfl) (of_decide_eq_true (by kernel_rfl)) k2 bel lt2) trodAll_mk0))), rfl, bel.frame _, fun h => by cases h⟩

theorem over : Rows.natSpreadsRow.holds Try.pinned (OpenSpec.ofChange Rows.natSpreadsSpec) :=
  OpenClaim.holds_of_wide 4 Try.f4 rfl rfl rfl rfl rfl rfl rfl ⟨rfl, rfl, rfl, rfl, rfl⟩ rfl rfl rfl rfl rfl (by kernel_rfl) Try.func4 (by kernel_rfl)
    (of_decide_eq_true (by kernel_rfl)) (by unfold Func.isWrapper; first | (rw [if_pos (by decide +kernel)]; kernel_rfl) | (rw [if_neg (by decide +kernel)]; exact ⟨rfl, rfl⟩))
    (fun os started H enc _ => lifted os started H enc)

theorem proved : Rows.NatSpreadsSaid := over
end Go.Proofs.Ytennhoalgclhjac.natSpreads
namespace Go.Proofs.Ytennhoalgclhjac
theorem natSpreads_holds : Rows.NatSpreadsSaid := natSpreads.proved
#print axioms natSpreads_holds
end Go.Proofs.Ytennhoalgclhjac

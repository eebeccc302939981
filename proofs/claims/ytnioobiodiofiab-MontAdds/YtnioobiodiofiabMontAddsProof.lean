/-
  The statement MontAdds holds of the code at the commit that is named beside it, for every input.
-/
import Derived.Test.YtnioobiodiofiabRows
import Derived.Test.YtnioobiodiofiabMExp
import Derived.WalkKit
import Derived.ProofKit
import Derived.OpenShut
import Derived.ShutString
import Derived.ChangeOld
import Derived.Below
namespace Go.Proofs.Ytnioobiodiofiab.montAdds
open Go.ChangeShapes Go.WideShapes Go.ChangeAt Go.RowKit
open Go.ChangeMaps (open_string shut_string)
set_option linter.unusedVariables false

theorem own : ownKnob Try.prog.godebug = none := by kernel_rfl
theorem laidOut : laidOutB Try.prog = true := by kernel_rfl


theorem open_one {H : Type} {enc : TypeId × Value → H} {W : World} {m : Nat} {c : Value} {x : DataW H × List MemPlace} (hf : DataW.trod enc Try.prog W 0 (fun _ => true) true m 23 [c] = some x) : ∃ a len cap zs, c = .slice a len cap ∧ IsRow .u64 W a len cap zs := by
  rcases open_ints Try.underlying23 Try.underlying40 (by kernel_rfl) hf with ⟨hcs, _⟩ | ⟨x, l, c, zs, hcs, _, hl, hm, hz, _, hcell, hwz⟩
  · simp at hcs
    exact ⟨none, 0, 0, [], hcs, .inl ⟨rfl, rfl, rfl, rfl⟩⟩
  · simp at hcs
    exact ⟨_, _, _, zs, hcs, .inr ⟨_, rfl, hl, hm, by simpa using hz, hcell, hwz⟩⟩

theorem open_two {H : Type} {enc : TypeId × Value → H} {W : World} {base : Nat} {v : Value} {d : DataW H} {ps : List MemPlace} (hv : Value.okWide Try.prog W .any base 24 v) (h : DataW.Trod enc Try.prog W 0 (fun _ => true) true 24 v d ps) :
    ∃ a2 len2 cap2 z2 a3 len3 cap3 z3, v = .agg #[.slice a2 len2 cap2, .slice a3 len3 cap3] ∧ IsRow .u64 W a2 len2 cap2 z2 ∧ IsRow .u64 W a3 len3 cap3 z3 := by
  have hu : Try.prog.underlying 24 = some (.array 2 23) := Try.underlying24
  have hce : Try.prog.cellsOf 23 = 1 := by kernel_rfl
  have hca : Try.prog.cellsOf 24 = 2 := by kernel_rfl
  simp only [Value.okWide, hu] at hv
  obtain ⟨cs, rfl, hsz, _⟩ := hv
  rw [hca] at hsz
  obtain ⟨c0, c1, rfl⟩ : ∃ c0 c1, cs = #[c0, c1] := by
    obtain ⟨l⟩ := cs
    match l, hsz with
    | [c0, c1], _ => exact ⟨c0, c1, rfl⟩
  obtain ⟨fuel, hf⟩ := h
  obtain ⟨xs, m, _, _, _, hl, hx⟩ := DataW.trod_array hu hf
  have q0 := hx 0 (by decide)
  have q1 := hx 1 (by decide)
  rw [hce] at q0 q1
  obtain ⟨x0, e0⟩ : ∃ x0, xs[0]? = some x0 := ⟨_, List.getElem?_eq_getElem (by omega)⟩
  obtain ⟨x1, e1⟩ : ∃ x1, xs[1]? = some x1 := ⟨_, List.getElem?_eq_getElem (by omega)⟩
  rw [e0] at q0
  rw [e1] at q1
  obtain ⟨a2, len2, cap2, z2, rfl, w2⟩ := open_one (c := c0) (by simpa [Value.cells] using q0)
  obtain ⟨a3, len3, cap3, z3, rfl, w3⟩ := open_one (c := c1) (by simpa [Value.cells] using q1)
  exact ⟨a2, len2, cap2, z2, a3, len3, cap3, z3, rfl, w2, w3⟩

theorem exp_zero {ok : Bool} {zs : List Int} {v : Int} {E : Nat} {ls : List Int} (h : ResExp ok zs v E ls 0) : ok = true ∧ Digs 18446744073709551616 ls ∧ belowB ls zs = true ∧ val 18446744073709551616 ls = v ^ E % val 18446744073709551616 zs := by
  unfold ResExp at h
  cases ok with
  | false => simp at h
  | true => rw [if_pos rfl] at h; exact ⟨rfl, h.2⟩

theorem res2_zero {xs ys ss : List Int} {v : Int} (h : Res2 xs ys v ss 0) : rightB ss = true ∧ val 18446744073709551616 ss = v := by
  unfold Res2 at h
  split at h
  · rcases h with ⟨_, _, ht, hl, hv⟩ | ⟨he, _⟩
    · exact ⟨right_mk hl ht, hv⟩
    · cases he
  · cases h.1

set_option maxHeartbeats 1600000 in
theorem walk (a0 : Option Addr) (len0 cap0 : Nat) (z0 : List Int) (a1 : Option Addr) (len1 cap1 : Nat) (z1 : List Int) (a2 : Option Addr) (len2 cap2 : Nat) (z2 : List Int) (a3 : Option Addr) (len3 cap3 : Nat) (z3 : List Int) (w : World) (w0 : IsRow .u64 w a0 len0 cap0 z0) (w1 : IsRow .u64 w a1 len1 cap1 z1) (w2 : IsRow .u64 w a2 len2 cap2 z2) (w3 : IsRow .u64 w a3 len3 cap3 z3) :
    Calls Try.prog 3 #[.slice a0 len0 cap0, .slice a1 len1 cap1, .agg #[.slice a2 len2 cap2, .slice a3 len3 cap3]] w fun e w' => e = .returned (.bool true) ∧ Below w.heap.size w w' := by
  have B0 := (Below.refl w.heap.size w).alloc (Nat.le_refl _) (.cells #[.slice a2 len2 cap2, .slice a3 len3 cap3] 24)
  have H0 := (Nums.of_row w0).below B0
  have H1 := (Nums.of_row w1).below B0
  have H2 := (Nums.of_row w2).below B0
  have H3 := (Nums.of_row w3).below B0
  generalize z0.take len0 = zs at H0
  generalize z1.take len1 = xs at H1
  generalize z2.take len2 = es at H2
  generalize z3.take len3 = fs at H3
  clear w0 w1 w2 w3
  have nn : ∀ {L : List Int}, Digs 18446744073709551616 L → ∃ E : Nat, val 18446744073709551616 L = (E : Int) := fun {L} h => ⟨(val 18446744073709551616 L).toNat, by have := val_nonneg (B := 18446744073709551616) (by decide) h; omega⟩
  have HN := (show Hid _ from @nn)
  clear nn
  obtain ⟨E, hE⟩ := HN.out H2.digs
  obtain ⟨F, hF⟩ := HN.out H3.digs
  go_enter Try.func3, Try.ntmps3
  go_wp2_with fail
  refine (fresh_any _ _ _ _ _ H0).mono ?_
  rintro e v1 ⟨⟨hm, rfl⟩ | ⟨hm, g, f, qs, rfl, hR, hO⟩, hb1⟩
  · have B1 := B0.trans (hb1.mono B0.size)
    go_wp2
    go_ret
    exact ⟨rfl, B1⟩
  · have X0 := H0.below hb1
    have X1 := H1.below hb1
    have X2 := H2.below hb1
    have X3 := H3.below hb1
    have B1 := B0.trans (hb1.mono B0.size)
    clear H0 H1 H2 H3 B0 hb1
    go_wp2_with fail
    refine (refAdd_any _ _ _ _ _ _ _ _ _ X2 X3).mono ?_
    rintro e v2 ⟨sa, sn, sc, ss, se, rfl, hs, hsr, hb2⟩
    have HS : Hid (Res2 es fs (val 18446744073709551616 es + val 18446744073709551616 fs) ss se) := hsr
    have R2 := hR.below hb2
    have Y0 := X0.below hb2
    have Y1 := X1.below hb2
    have Y2 := X2.below hb2
    have Y3 := X3.below hb2
    have B2 := B1.trans (hb2.mono B1.size)
    clear hsr X0 X1 X2 X3 B1 hb2 hR
    obtain ⟨S, hS⟩ := HN.out hs.digs
    go_wp2_with fail
    refine (mExp_any _ _ _ _ _ _ _ _ _ _ _ _ _ _ R2 hO Y1 Y2 hE).mono ?_
    rintro e v3 ⟨xa, xn, xc, ls, xe, rfl, hx, hxr, hb3⟩
    have HX : Hid (ResExp (expB xs es zs) zs (val 18446744073709551616 xs) E ls xe) := hxr
    have R3 := R2.below hb3
    have Z0 := Y0.below hb3
    have Z1 := Y1.below hb3
    have Z3 := Y3.below hb3
    have hs3 := hs.below hb3
    have B3 := B2.trans (hb3.mono B2.size)
    clear hxr Y0 Y1 Y2 Y3 B2 hb3 R2 hs
    go_wp2_with fail
    refine (mExp_any _ _ _ _ _ _ _ _ _ _ _ _ _ _ R3 hO Z1 Z3 hF).mono ?_
    rintro e v4 ⟨ya, yn, yc, ks, ye, rfl, hy, hyr, hb4⟩
    have HY : Hid (ResExp (expB xs fs zs) zs (val 18446744073709551616 xs) F ks ye) := hyr
    have R4 := R3.below hb4
    have W0 := Z0.below hb4
    have W1 := Z1.below hb4
    have hs4 := hs3.below hb4
    have hx4 := hx.below hb4
    have B4 := B3.trans (hb4.mono B3.size)
    clear hyr Z0 Z1 Z3 B3 hb4 R3 hs3 hx
    go_wp2_with fail
    refine (mExp_any _ _ _ _ _ _ _ _ _ _ _ _ _ _ R4 hO W1 hs4 hS).mono ?_
    rintro e v5 ⟨ta, tn, tc, ts, te, rfl, ht, htr, hb5⟩
    have HT : Hid (ResExp (expB xs ss zs) zs (val 18446744073709551616 xs) S ts te) := htr
    have V0 := W0.below hb5
    have hs5 := hs4.below hb5
    have hx5 := hx4.below hb5
    have hy5 := hy.below hb5
    have B5 := B4.trans (hb5.mono B4.size)
    have hsl := hs5.hlen
    clear htr W0 W1 B4 hb5 R4 hs4 hx4 hy
    by_cases hx0 : xe = 0
    · by_cases hy0 : ye = 0
      · by_cases hs0 : se = 0
        · by_cases hl8 : sn ≤ 8
          · subst hx0
            subst hy0
            subst hs0
            have ex := exp_zero HX.out
            have ey := exp_zero HY.out
            have er := res2_zero HS.out
            have hxb : belowB xs zs = true := by have := ex.1; simp [expB] at this; exact this.1
            have hok : expB xs ss zs = true := by simp [expB, hxb, er.1, hsl, hl8]
            have et : te = 0 ∧ Digs 18446744073709551616 ts ∧ belowB ts zs = true ∧ val 18446744073709551616 ts = val 18446744073709551616 xs ^ S % val 18446744073709551616 zs := by
              have := HT.out
              unfold ResExp at this
              rw [hok, if_pos rfl] at this
              exact this
            obtain ⟨rfl, et1, et2, et3⟩ := et
            have hSEF : S = E + F := by
              have := er.2
              rw [hS, hE, hF] at this
              omega
            have HV : Hid (∀ us : List Int, Digs 18446744073709551616 us → belowB us zs = true → val 18446744073709551616 us = (val 18446744073709551616 ls * val 18446744073709551616 ks) % val 18446744073709551616 zs → ts = us) := by
              intro us d1 d2 d3
              refine val_inj (by decide) et1 d1 (right_top (below_parts et2).1) (right_top (below_parts d2).1) ?_
              rw [et3, d3, ex.2.2.2, ey.2.2.2, ← Int.mul_emod, ← Int.pow_add, hSEF]
            have hM := hO.modOk
            have hbl := ex.2.2.1
            have hbk := ey.2.2.1
            have hd8 : decide ((8 : Int) < (sn : Int)) = false := by simp; omega
            clear ex ey er hxb hok et1 et2 et3 hSEF HX HY HS HT hsl
            go_wp2_with fail
            refine (mtimes_any _ _ _ _ _ _ _ _ _ _ _ _ _ hx5 hy5 V0 hM hbl hbk).mono ?_
            rintro e v6 ⟨ua, un, uc, us, rfl, hu, hub, huv, hb6⟩
            obtain rfl := HV.out us hu.digs hub huv
            have ht6 := ht.below hb6
            have B6 := B5.trans (hb6.mono B5.size)
            clear huv hub HV ht hb6 B5
            go_wp2_with fail
            refine (same_any _ _ _ _ _ _ _ _ _ ht6 hu).mono ?_
            rintro e v7 ⟨rfl, hb7⟩
            rw [sameB_self]
            have B7 := B6.trans (hb7.mono B6.size)
            clear hb7 B6 ht6 hu
            go_wp2_with fail
            go_ret
            exact ⟨by simp, B7⟩
          · subst hx0
            subst hy0
            subst hs0
            have hm5 := hs5.hcap
            have hm6 := hs5.hmax
            have hd8 : (8 : Int) < (sn : Int) := by omega
            clear HX HY HS HT hsl
            go_wp2
            go_ret
            exact ⟨rfl, B5⟩
        · subst hx0
          subst hy0
          have q : (se == 0) = false := by simp [hs0]
          clear HX HY HS HT hsl
          go_wp2
          go_ret
          exact ⟨rfl, B5⟩
      · subst hx0
        have q : (ye == 0) = false := by simp [hy0]
        clear HX HY HS HT hsl
        go_wp2
        go_ret
        exact ⟨rfl, B5⟩
    · have q : (xe == 0) = false := by simp [hx0]
      clear HX HY HS HT hsl
      go_wp2
      go_ret
      exact ⟨rfl, B5⟩

set_option maxRecDepth 100000 in
theorem lifted (os : Os) (started : os.Started) (H : Type) (enc : TypeId × Value → H) :
    ReturnsInHanded {} Try.checked os 3 .any (Rows.montAddsSpec.pre6 enc Try.prog Try.f3 Rows.montAddsRow.domain false) (Rows.montAddsSpec.post enc Try.prog Try.f3 false true false false) := by
  refine returnsInHanded_of_change (C := Try.checked) own started (by kernel_rfl) Try.func3
    (ChangeSpec.witness6 (enc := enc) (C := Try.checked) false ⟨#[], #[.slice none 0 0, .slice none 0 0, .agg #[.slice none 0 0, .slice none 0 0]], []⟩ 8 (by kernel_rfl) (by kernel_rfl) (by kernel_rfl) (by kernel_rfl)) ?_
  intro W base args ds gs before hval0 hW hcnd _
  have hval : ∀ (j : Nat) t v, Try.f3.params[j]? = some t → args[j]? = some v → Value.okWide Try.prog W .any base t v := hval0
  have hW' := hW
  obtain ⟨p, q, hA0, hV, rfl, hfz, hnd⟩ := hW
  have hA : DataW.TrodAll enc Try.prog W 0 (fun _ => true) true Try.f3.params.toList args.toList ds p := hA0
  rw [Try.params3] at hA hval
  obtain ⟨v0, vs0, d0, ds0, p0, q0, hargs, rfl, rfl, h0, r0⟩ := trodAll_cons hA
  obtain ⟨v1, vs1, d1, ds1, p1, q1, rfl, rfl, rfl, h1, r1⟩ := trodAll_cons r0
  obtain ⟨v2, vs2, d2, ds2, p2, q2, rfl, rfl, rfl, h2, r2⟩ := trodAll_cons r1
  obtain ⟨rfl, rfl, rfl⟩ := trodAll_nil r2
  obtain rfl : args = #[v0, v1, v2] := by cases args; simp_all
  obtain ⟨rfl, rfl⟩ := trodVars_none hV
  obtain ⟨a0, len0, cap0, rfl⟩ := okWide_slice Try.underlying23 (hval 0 23 v0 rfl rfl)
  have k0 := h0
  have lt0 : ∀ x ∈ p0, x.block < W.heap.size := by obtain ⟨m, hm⟩ := k0; exact DataW.trod_lt m _ _ _ hm
  obtain ⟨z0, w0⟩ : ∃ zs, IsRow .u64 W a0 len0 cap0 zs := by
    obtain ⟨fuel, hf⟩ := h0
    rcases open_ints Try.underlying23 Try.underlying40 (by kernel_rfl) hf with ⟨hcs, _⟩ | ⟨x, l, c, zs, hcs, _, hl, hm, hz, _, hcell, hwz⟩
    · simp [Value.cells] at hcs
      obtain ⟨rfl, rfl, rfl⟩ := hcs
      exact ⟨[], .inl ⟨rfl, rfl, rfl, rfl⟩⟩
    · simp [Value.cells] at hcs
      obtain ⟨rfl, rfl, rfl⟩ := hcs
      exact ⟨zs, .inr ⟨_, rfl, hl, hm, by simpa using hz, hcell, hwz⟩⟩
  obtain ⟨a1, len1, cap1, rfl⟩ := okWide_slice Try.underlying23 (hval 1 23 v1 rfl rfl)
  have k1 := h1
  have lt1 : ∀ x ∈ p1, x.block < W.heap.size := by obtain ⟨m, hm⟩ := k1; exact DataW.trod_lt m _ _ _ hm
  obtain ⟨z1, w1⟩ : ∃ zs, IsRow .u64 W a1 len1 cap1 zs := by
    obtain ⟨fuel, hf⟩ := h1
    rcases open_ints Try.underlying23 Try.underlying40 (by kernel_rfl) hf with ⟨hcs, _⟩ | ⟨x, l, c, zs, hcs, _, hl, hm, hz, _, hcell, hwz⟩
    · simp [Value.cells] at hcs
      obtain ⟨rfl, rfl, rfl⟩ := hcs
      exact ⟨[], .inl ⟨rfl, rfl, rfl, rfl⟩⟩
    · simp [Value.cells] at hcs
      obtain ⟨rfl, rfl, rfl⟩ := hcs
      exact ⟨zs, .inr ⟨_, rfl, hl, hm, by simpa using hz, hcell, hwz⟩⟩
  have k2 := h2
  have lt2 : ∀ x ∈ p2, x.block < W.heap.size := by obtain ⟨m, hm⟩ := k2; exact DataW.trod_lt m _ _ _ hm
  obtain ⟨a2, len2, cap2, z2, a3, len3, cap3, z3, hv2, w2, w3⟩ := open_two (hval 2 24 v2 rfl rfl) h2
  subst hv2
  clear hA0 hval0
  refine (walk a0 len0 cap0 z0 a1 len1 cap1 z1 a2 len2 cap2 z2 a3 len3 cap3 z3 W w0 w1 w2 w3).mono fun e W' ⟨he, bel⟩ => ?_
  subst he
  exact ⟨_, rfl, _, _, _, [], _, [], hW', trodAll_mk1 (shut_bool Try.underlying4 _), (trodAll_cons_mk (Below.trod laidOut (by kernel_rfl) (of_decide_eq_true (by kernel_rfl)) k0 bel lt0) (trodAll_cons_mk (Below.trod laidOut (by kernel_rfl) (of_decide_eq_true (by kernel_rfl)) k1 bel lt1) (trodAll_cons_mk (Below.trod laidOut (by kernel_rfl) (of_decide_eq_true (by kernel_rfl)) k2 bel lt2) trodAll_mk0))), rfl, bel.frame _, fun h => by cases h⟩

theorem over : Rows.montAddsRow.holds Try.pinned (OpenSpec.ofChange Rows.montAddsSpec) :=
  OpenClaim.holds_of_wide 3 Try.f3 rfl rfl rfl rfl rfl rfl rfl ⟨rfl, rfl, rfl, rfl, rfl⟩ rfl rfl rfl rfl rfl (by kernel_rfl) Try.func3 (by kernel_rfl)
    (of_decide_eq_true (by kernel_rfl)) (by unfold Func.isWrapper; first | (rw [if_pos (by decide +kernel)]; kernel_rfl) | (rw [if_neg (by decide +kernel)]; exact ⟨rfl, rfl⟩))
    (fun os started H enc _ => lifted os started H enc)

theorem proved : Rows.MontAddsSaid := over
end Go.Proofs.Ytnioobiodiofiab.montAdds
namespace Go.Proofs.Ytnioobiodiofiab
theorem montAdds_holds : Rows.MontAddsSaid := montAdds.proved
#print axioms montAdds_holds
end Go.Proofs.Ytnioobiodiofiab

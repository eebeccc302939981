/-
  The statement NatOwn holds of the code at the commit that is named beside it, for every input.
-/
import Derived.Test.YtennhoalgclhjacRows
import Derived.Test.YtennhoalgclhjacFew
import Derived.Test.YtennhoalgclhjacOwnLaw
import Derived.WalkKit
import Derived.ProofKit
import Derived.OpenShut
import Derived.ShutString
import Derived.ChangeOld
import Derived.Below
namespace Go.Proofs.Ytennhoalgclhjac.natOwn
open Go.ChangeShapes Go.WideShapes Go.ChangeAt Go.RowKit
open Go.ChangeMaps (open_string shut_string)
set_option linter.unusedVariables false

theorem own : ownKnob Try.prog.godebug = none := by kernel_rfl
theorem laidOut : laidOutB Try.prog = true := by kernel_rfl

set_option maxHeartbeats 3200000 in
theorem walk (a0 : Option Addr) (len0 cap0 : Nat) (z0 : List Int) (a1 : Option Addr) (len1 cap1 : Nat) (z1 : List Int) (w : World) (w0 : IsRow .u64 w a0 len0 cap0 z0) (w1 : IsRow .u64 w a1 len1 cap1 z1) :
    Calls Try.prog 7 #[.slice a0 len0 cap0, .slice a1 len1 cap1] w fun e w' => e = .returned (.bool true) ∧ Below w.heap.size w w' := by
  have A := Nums.of_row w0
  have B := Nums.of_row w1
  have na : a0 = none → cap0 = 0 := fun e => by
    rcases w0 with ⟨_, _, h, _⟩ | ⟨x, h, _⟩
    · exact h
    · rw [e] at h; cases h
  have nb : a1 = none → cap1 = 0 := fun e => by
    rcases w1 with ⟨_, _, h, _⟩ | ⟨x, h, _⟩
    · exact h
    · rw [e] at h; cases h
  generalize z0.take len0 = zs at A
  generalize z1.take len1 = ys at B
  have hzd := A.digs
  have hyd := B.digs
  clear w0 w1
  cases hr : rightB zs with
  | false =>
    cases hr' : rightB ys with
    | false =>
      go_enter Try.func7, Try.ntmps7
      go_wp2_with fail
      refine (refRight_any _ _ _ _ _ A).mono ?_
      rintro e w1 ⟨rfl, hw1⟩
      subst hw1
      go_wp2_with fail
      refine (refRight_any _ _ _ _ _ B).mono ?_
      rintro e w2 ⟨rfl, hw2⟩
      subst hw2
      go_wp2_with fail
      go_ret
      exact ⟨rfl, Below.refl _ _⟩
    | true =>
      go_enter Try.func7, Try.ntmps7
      go_wp2_with fail
      refine (refRight_any _ _ _ _ _ A).mono ?_
      rintro e w1 ⟨rfl, hw1⟩
      subst hw1
      go_wp2_with fail
      refine (refRight_any _ _ _ _ _ B).mono ?_
      rintro e w2 ⟨rfl, hw2⟩
      subst hw2
      go_wp2_with fail
      go_ret
      exact ⟨rfl, Below.refl _ _⟩
  | true =>
    cases hr' : rightB ys with
    | false =>
      go_enter Try.func7, Try.ntmps7
      go_wp2_with fail
      refine (refRight_any _ _ _ _ _ A).mono ?_
      rintro e w1 ⟨rfl, hw1⟩
      subst hw1
      go_wp2_with fail
      refine (refRight_any _ _ _ _ _ B).mono ?_
      rintro e w2 ⟨rfl, hw2⟩
      subst hw2
      go_wp2_with fail
      go_ret
      exact ⟨rfl, Below.refl _ _⟩
    | true =>
      have hla : len0 ≤ 64 := by have := right_len hr; have := A.hlen; omega
      have hlb : len1 ≤ 64 := by have := right_len hr'; have := B.hlen; omega
      go_enter Try.func7, Try.ntmps7
      go_wp2_with fail
      refine (refRight_any _ _ _ _ _ A).mono ?_
      rintro e w1 ⟨rfl, hw1⟩
      subst hw1
      go_wp2_with fail
      refine (refRight_any _ _ _ _ _ B).mono ?_
      rintro e w2 ⟨rfl, hw2⟩
      subst hw2
      have hown := Own.empty w2
      have hb0 := (Below.refl w2.heap.size w2).alloc (Nat.le_refl _) (.cells #[] 29)
      have A1 := A.below hb0
      go_wp2_with (at_builtin; refine wpList_appN _ rfl _ _ 23 rfl Try.underlying23 w2.heap.size _ [] rfl hown a0 len0 cap0 zs rfl A1 na ?c1 w2 ?c2 hb0 ?_)
      case c1 => simp; omega
      case c2 => simp
      intro v' w3 hown1 hB3
      obtain ⟨xa, xn, xc, rfl, X, -⟩ := hown1.fresh hzd
      replace A := A.below hB3
      replace B := B.below hB3
      clear hown hb0 A1 hown1 hr hr'
      have hown := Own.empty w3
      have hb0 := (Below.refl w3.heap.size w3).alloc (Nat.le_refl _) (.cells #[] 29)
      have B1 := B.below hb0
      go_wp2_with (at_builtin; refine wpList_appN _ rfl _ _ 23 rfl Try.underlying23 w3.heap.size _ [] rfl hown a1 len1 cap1 ys rfl B1 nb ?c1 w3 ?c2 hb0 ?_)
      case c1 => simp; omega
      case c2 => simp
      intro v' wb hown1 hb
      obtain ⟨ya, yn, yc, rfl, Y, -⟩ := hown1.fresh hyd
      replace A := A.below hb
      replace B := B.below hb
      replace X := X.below hb
      have hBb := hB3.trans (hb.mono hB3.size)
      clear hown hb0 B1 hown1 hb hB3 na nb hzd hyd hla hlb
      have hxl := X.hlen
      have X0 := X
      have Y0 := Y
      go_wp2_with fail
      refine (add_any _ _ _ _ _ _ _ _ _ X Y).mono ?_
      rintro e v1 ⟨sa, sn, sc, ss, se, rfl, S, -, fS, hb⟩
      have mS : sn ≤ sc ∧ sc ≤ maxLen := ⟨S.hcap, S.hmax⟩
      replace X := X.below hb
      have hB1 := hb
      clear hb S Y
      go_wp2_with fail
      refine (add_any _ _ _ _ _ _ _ [] _ X (Nums.nil _)).mono ?_
      rintro e v2 ⟨ta, tn, tc, ts, te, rfl, S, -, fT, hb⟩
      have mT : tn ≤ tc ∧ tc ≤ maxLen := ⟨S.hcap, S.hmax⟩
      replace X := X.below hb
      replace fS := fS.below hb
      replace fT := fT.base (w0 := wb) hB1.size
      have hB2 := hB1.trans (hb.mono hB1.size)
      clear hb S hB1
      go_wp2_with fail
      refine (shl_any _ _ _ _ _ _ X (by omega)).mono ?_
      rintro e v3 ⟨da, dn, dc, ds, de, rfl, S, -, fD, hb⟩
      have mD : dn ≤ dc ∧ dc ≤ maxLen := ⟨S.hcap, S.hmax⟩
      replace X := X.below hb
      replace fS := fS.below hb
      replace fT := fT.below hb
      replace fD := fD.base (w0 := wb) hB2.size
      have hB3 := hB2.trans (hb.mono hB2.size)
      clear hb S hB2
      go_wp2_with fail
      refine (shr_any _ _ _ _ _ _ X).mono ?_
      rintro e v4 ⟨ha, hn, hc, hs, he, rfl, S, -, fH, hb⟩
      have mH : hn ≤ hc ∧ hc ≤ maxLen := ⟨S.hcap, S.hmax⟩
      replace X := X.below hb
      replace fS := fS.below hb
      replace fT := fT.below hb
      replace fD := fD.below hb
      replace fH := fH.base (w0 := wb) hB3.size
      have hB4 := hB3.trans (hb.mono hB3.size)
      clear hb S hB3
      have L1 := Nums.lit1 v4 1 (by omega) 29
      have hb := (Below.refl v4.heap.size v4).alloc (Nat.le_refl _) (.cells #[.int .u64 1] 29)
      replace X := X.below hb
      replace fS := fS.below hb
      replace fT := fT.below hb
      replace fD := fD.below hb
      replace fH := fH.below hb
      have hB5 := hB4.trans (hb.mono hB4.size)
      clear hb hB4
      go_wp2_with fail
      refine (mul_any _ _ _ _ _ _ _ [1] _ X L1).mono ?_
      rintro e v5 ⟨pa, pn, pc, ps, pe, rfl, S, -, fP, hb⟩
      have mP : pn ≤ pc ∧ pc ≤ maxLen := ⟨S.hcap, S.hmax⟩
      replace X := X.below hb
      replace fS := fS.below hb
      replace fT := fT.below hb
      replace fD := fD.below hb
      replace fH := fH.below hb
      replace fP := fP.base (w0 := wb) hB5.size
      have hB6 := hB5.trans (hb.mono hB5.size)
      clear hb S hB5 L1
      have L2 := Nums.lit2 v5 0 1 (by omega) (by omega) 29
      have hb := (Below.refl v5.heap.size v5).alloc (Nat.le_refl _) (.cells #[.int .u64 0, .int .u64 1] 29)
      replace X := X.below hb
      replace fS := fS.below hb
      replace fT := fT.below hb
      replace fD := fD.below hb
      replace fH := fH.below hb
      replace fP := fP.below hb
      have hB7 := hB6.trans (hb.mono hB6.size)
      clear hb hB6
      go_wp2_with fail
      refine (div_any _ _ _ _ _ _ _ [0, 1] _ X L2).mono ?_
      rintro e v6 ⟨qa, qn, qc, qs, ra, rn, rc, rs, re, rfl, -, S, -, -, fR, -, hb⟩
      have mR : rn ≤ rc ∧ rc ≤ maxLen := ⟨S.hcap, S.hmax⟩
      replace fS := fS.below hb
      replace fT := fT.below hb
      replace fD := fD.below hb
      replace fH := fH.below hb
      replace fP := fP.below hb
      replace fR := fR.base (w0 := wb) hB7.size
      have hB8 := hB7.trans (hb.mono hB7.size)
      clear hb S hB7 L2 X
      obtain ⟨AA, NN, CC, hheld⟩ := held_start (t := 23) mS mT mD mH mP mR fS fT fD fH fP fR
      have hB9 := hB8.alloc hB8.size (.cells #[.slice sa sn sc, .slice ta tn tc, .slice da dn dc, .slice ha hn hc, .slice pa pn pc, .slice ra rn rc] 23)
      have HH : Hid (Held wb v6.heap.size AA NN CC (v6.alloc (.cells #[.slice sa sn sc, .slice ta tn tc, .slice da dn dc, .slice ha hn hc, .slice pa pn pc, .slice ra rn rc] 23))) := hheld
      clear hheld hB8 mS mT mD mH mP mR fS fT fD fH fP fR hxl
      go_wp2
      go_loopw [23] (fun iv wr => ∃ i : Nat, i ≤ 6 ∧ iv = .int .i64 i ∧ Held wb v6.heap.size AA NN CC wr ∧ Below wb.heap.size wb wr) (fun iv _ => 6 - (intOf iv).toNat)
      case atStart => exact ⟨0, Nat.zero_le _, rfl, HH.out, hB9⟩
      case round =>
        obtain ⟨i, hi, rfl, hh, hb⟩ := hrel
        clear hB9 HH
        by_cases hlt : i < 6
        · have hlti : (i : Int) < 6 := by omega
          go_wp2
          go_loopw [24] (fun kv wr => ∃ k : Nat, k ≤ NN i ∧ kv = .int .i64 k ∧ Held wb v6.heap.size AA NN CC wr ∧ Below wb.heap.size wb wr) (fun kv _ => NN i - (intOf kv).toNat)
          case atStart => exact ⟨0, Nat.zero_le _, rfl, hh, hb⟩
          case round =>
            obtain ⟨k, hk, rfl, hh2, hb2⟩ := hrel
            clear hh hb
            have hc1 := hh2.cell i hlt
            have hlen := hh2.len i hlt
            obtain ⟨ni, hni⟩ : ∃ ni, ni = NN i := ⟨_, rfl⟩
            rw [← hni] at hc1 hlen hk
            have HN : Hid (ni = NN i) := hni
            clear hni
            unfold maxLen at hlen
            by_cases hkl : k < ni
            · have hkli : (k : Int) < (ni : Int) := by omega
              obtain ⟨g, v, e1, e2, e3, e4, e5⟩ := hh2.set hlt (by rw [← HN.out]; exact hkl)
              rw [e1] at hc1
              have H5 : Hid (Held wb v6.heap.size AA NN CC (wr.setCell ⟨g, k, none⟩ (.int .u64 77))) := e5
              have H6 : Hid (Below wb.heap.size wb (wr.setCell ⟨g, k, none⟩ (.int .u64 77))) := hb2.setCell e4 _
              clear e1 e5 hh2 hb2
              go_wp2
              go_roundw
              case rel => exact ⟨k + 1, by have := HN.out; omega, by go_num, H5.out, H6.out⟩
              case measure => have := HN.out; simp [intOf]; omega
            · go_wp2
              go_roundw
              case rel => exact ⟨i + 1, by omega, by go_num, hh2, hb2⟩
              case measure => simp [intOf]; omega
        · obtain rfl : i = 6 := by omega
          have X := X0.below hb
          have Y := Y0.below hb
          replace A := A.below hb
          replace B := B.below hb
          have hB1 := hBb.trans (hb.mono hBb.size)
          clear hh X0 Y0 hb hBb
          go_wp2_with fail
          refine (same_any _ _ _ _ _ _ _ _ _ X A).mono ?_
          rintro e v7 ⟨rfl, hb⟩
          rw [sameB_self]
          replace B := B.below hb
          replace Y := Y.below hb
          have hB2 := hB1.trans (hb.mono hB1.size)
          clear hb hB1 X A
          go_wp2_with fail
          refine (same_any _ _ _ _ _ _ _ _ _ Y B).mono ?_
          rintro e v8 ⟨rfl, hb⟩
          rw [sameB_self]
          have hB3 := hB2.trans (hb.mono hB2.size)
          clear hb hB2 Y B
          have L1 := Nums.lit1 v8 1 (by omega) 29
          have hB4 := hB3.alloc hB3.size (.cells #[.int .u64 1] 29)
          clear hB3
          go_wp2_with fail
          refine (add_any _ _ _ _ _ _ [1] [] _ L1 (Nums.nil _)).mono ?_
          rintro e v9 ⟨oa, on, oc, os, oe, rfl, ho, hor, -, hb⟩
          have h1 : on = 1 := by
            have hor' : Res (val 18446744073709551616 [1] + val 18446744073709551616 []) os oe := by simpa [Res2, rightB, val] using hor
            have := res_one (by simp [val]) hor'
            have := ho.hlen
            omega
          subst h1
          have hB5 := hB4.trans (hb.mono hB4.size)
          clear hor ho hb hB4 L1
          go_wp2_with fail
          go_ret
          exact ⟨by simp, hB5⟩

set_option maxRecDepth 100000 in
theorem lifted (os : Os) (started : os.Started) (H : Type) (enc : TypeId × Value → H) :
    ReturnsInHanded {} Try.checked os 7 .any (Rows.natOwnSpec.pre6 enc Try.prog Try.f7 Rows.natOwnRow.domain false) (Rows.natOwnSpec.post enc Try.prog Try.f7 false true false false) := by
  refine returnsInHanded_of_change (C := Try.checked) own started (by kernel_rfl) Try.func7
    (ChangeSpec.witness6 (enc := enc) (C := Try.checked) false ⟨#[], #[.slice none 0 0, .slice none 0 0], []⟩ 8 (by kernel_rfl) (by kernel_rfl) (by kernel_rfl) (by kernel_rfl)) ?_
  intro W base args ds gs before hval0 hW hcnd _
  have hval : ∀ (j : Nat) t v, Try.f7.params[j]? = some t → args[j]? = some v → Value.okWide Try.prog W .any base t v := hval0
  have hW' := hW
  obtain ⟨p, q, hA0, hV, rfl, hfz, hnd⟩ := hW
  have hA : DataW.TrodAll enc Try.prog W 0 (fun _ => true) true Try.f7.params.toList args.toList ds p := hA0
  rw [Try.params7] at hA hval
  obtain ⟨v0, vs0, d0, ds0, p0, q0, hargs, rfl, rfl, h0, r0⟩ := trodAll_cons hA
  obtain ⟨v1, vs1, d1, ds1, p1, q1, rfl, rfl, rfl, h1, r1⟩ := trodAll_cons r0
  obtain ⟨rfl, rfl, rfl⟩ := trodAll_nil r1
  obtain rfl : args = #[v0, v1] := by cases args; simp_all
  obtain ⟨rfl, rfl⟩ := trodVars_none hV
  obtain ⟨a0, len0, cap0, rfl⟩ := okWide_slice Try.underlying23 (hval 0 23 v0 rfl rfl)
  have k0 := h0
  have lt0 : ∀ x ∈ p0, x.block < W.heap.size := by obtain ⟨m, hm⟩ := k0; exact DataW.trod_lt m _ _ _ hm
  obtain ⟨z0, w0⟩ : ∃ zs, IsRow .u64 W a0 len0 cap0 zs := by
    obtain ⟨fuel, hf⟩ := h0
    rcases open_ints Try.underlying23 Try.underlying29 (by kernel_rfl) hf with ⟨hcs, _⟩ | ⟨x, l, c, zs, hcs, _, hl, hm, hz, _, hcell, hwz⟩
    · simp [Value.cells] at hcs
      obtain ⟨rfl, rfl, rfl⟩ := hcs
      exact ⟨[], .inl ⟨rfl, rfl, rfl, rfl⟩⟩
    · simp [Value.cells] at hcs
      obtain ⟨rfl, rfl, rfl⟩ := hcs
      exact ⟨zs, .inr ⟨_, rfl, hl, hm, by simpa using hz, hcell, hwz⟩⟩
  obtain ⟨a1, len1, cap1, rfl⟩ := okWide_slice Try.underlying23 (hval 1 23 v1 rfl rfl)
  have k1 := h1
  have lt1 : ∀ x ∈ p1, x.block < W.heap.size := by obtain ⟨m, hm⟩ := k1; exact DataW.trod_lt m _ _ _ hm
  obtain ⟨z1, w1⟩ : ∃ zs, IsRow .u64 W a1 len1 cap1 zs := by
    obtain ⟨fuel, hf⟩ := h1
    rcases open_ints Try.underlying23 Try.underlying29 (by kernel_rfl) hf with ⟨hcs, _⟩ | ⟨x, l, c, zs, hcs, _, hl, hm, hz, _, hcell, hwz⟩
    · simp [Value.cells] at hcs
      obtain ⟨rfl, rfl, rfl⟩ := hcs
      exact ⟨[], .inl ⟨rfl, rfl, rfl, rfl⟩⟩
    · simp [Value.cells] at hcs
      obtain ⟨rfl, rfl, rfl⟩ := hcs
      exact ⟨zs, .inr ⟨_, rfl, hl, hm, by simpa using hz, hcell, hwz⟩⟩
  clear hA0 hval0
  refine (walk a0 len0 cap0 z0 a1 len1 cap1 z1 W w0 w1).mono fun e W' ⟨he, bel⟩ => ?_
  subst he
  exact ⟨_, rfl, _, _, _, [], _, [], hW', trodAll_mk1 (shut_bool Try.underlying4 _), (trodAll_cons_mk (Below.trod laidOut (by kernel_rfl) (of_decide_eq_true (by kernel_rfl)) k0 bel lt0) (trodAll_cons_mk (Below.trod laidOut (by kernel_rfl) (of_decide_eq_true (by kernel_rfl)) k1 bel lt1) trodAll_mk0)), rfl, bel.frame _, fun h => by cases h⟩

theorem over : Rows.natOwnRow.holds Try.pinned (OpenSpec.ofChange Rows.natOwnSpec) :=
  OpenClaim.holds_of_wide 7 Try.f7 rfl rfl rfl rfl rfl rfl rfl ⟨rfl, rfl, rfl, rfl, rfl⟩ rfl rfl rfl rfl rfl (by kernel_rfl) Try.func7 (by kernel_rfl)
    (of_decide_eq_true (by kernel_rfl)) (by unfold Func.isWrapper; first | (rw [if_pos (by decide +kernel)]; kernel_rfl) | (rw [if_neg (by decide +kernel)]; exact ⟨rfl, rfl⟩))
    (fun os started H enc _ => lifted os started H enc)

theorem proved : Rows.NatOwnSaid := over
end Go.Proofs.Ytennhoalgclhjac.natOwn
namespace Go.Proofs.Ytennhoalgclhjac
theorem natOwn_holds : Rows.NatOwnSaid := natOwn.proved
#print axioms natOwn_holds
end Go.Proofs.Ytennhoalgclhjac

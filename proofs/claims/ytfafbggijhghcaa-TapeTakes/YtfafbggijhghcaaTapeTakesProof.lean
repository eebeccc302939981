/-
  The statement TapeTakes holds of the code at the commit that is named beside it, for every input.
-/
import Derived.Test.YtfafbggijhghcaaRows
import Derived.Test.YtfafbggijhghcaaTapeF
import Derived.WalkKit
import Derived.ProofKit
import Derived.OpenShut
import Derived.ShutString
import Derived.ChangeOld
import Derived.Below
import Derived.Deep.Cut
import Derived.Deep.DeepCutAuto
import Derived.Deep.RegionWith
import Derived.BigRegion
namespace Go.Proofs.Ytfafbggijhghcaa.tapeTakes
open Go.ChangeShapes Go.WideShapes Go.ChangeAt Go.RowKit
open Go.ChangeMaps (open_string shut_string)
set_option linter.unusedVariables false

theorem own : ownKnob Try.prog.godebug = none := by kernel_rfl
theorem laidOut : laidOutB Try.prog = true := by kernel_rfl

theorem open_oneB {H : Type} {enc : TypeId × Value → H} {W : World} {m : Nat} {c : Value} {x : DataW H × List MemPlace} (hf : DataW.trod enc Try.prog W 0 (fun _ => true) true m 22 [c] = some x) : ∃ a len cap zs, c = .slice a len cap ∧ IsRow .u8 W a len cap zs := by
  rcases open_ints Try.underlying22 Try.underlying5 (by kernel_rfl) hf with ⟨hcs, _⟩ | ⟨x, l, c, zs, hcs, _, hl, hm, hz, _, hcell, hwz⟩
  · simp at hcs
    exact ⟨none, 0, 0, [], hcs, .inl ⟨rfl, rfl, rfl, rfl⟩⟩
  · simp at hcs
    exact ⟨_, _, _, zs, hcs, .inr ⟨_, rfl, hl, hm, by simpa using hz, hcell, hwz⟩⟩

theorem open_oneL {H : Type} {enc : TypeId × Value → H} {W : World} {m : Nat} {c : Value} {x : DataW H × List MemPlace} (hf : DataW.trod enc Try.prog W 0 (fun _ => true) true m 29 [c] = some x) : ∃ a len cap zs, c = .slice a len cap ∧ IsRow .i64 W a len cap zs := by
  rcases open_ints Try.underlying29 Try.underlying3 (by kernel_rfl) hf with ⟨hcs, _⟩ | ⟨x, l, c, zs, hcs, _, hl, hm, hz, _, hcell, hwz⟩
  · simp at hcs
    exact ⟨none, 0, 0, [], hcs, .inl ⟨rfl, rfl, rfl, rfl⟩⟩
  · simp at hcs
    exact ⟨_, _, _, zs, hcs, .inr ⟨_, rfl, hl, hm, by simpa using hz, hcell, hwz⟩⟩

set_option maxHeartbeats 1600000 in
theorem walk (a0 : Option Addr) (len0 cap0 : Nat) (z0 : List Int) (a1 : Option Addr) (len1 cap1 : Nat) (z1 : List Int) (w : World) (w0 : IsRow .u8 w a0 len0 cap0 z0) (w1 : IsRow .i64 w a1 len1 cap1 z1) :
    Calls Try.prog 4 #[.slice a0 len0 cap0, .slice a1 len1 cap1] w fun e w' => e = .returned (.bool true) ∧ Below w.heap.size w w' := by
  have H0 := Byts.of_row w0
  have hnil := row_nil w0
  generalize z0.take len0 = bs at H0
  have HI : Hid (∀ wx : World, Below w.heap.size w wx → ∀ i, i < len1 → ∃ b off x, a1 = some ⟨b, off, none⟩ ∧ wx.cell? ⟨b, off + i, none⟩ = some (.int .i64 x)) := by
    intro wx hb i hi
    rcases w1 with ⟨_, rfl, _, _⟩ | ⟨ad, rfl, hl, hm, hz, hcell, hwf⟩
    · omega
    · obtain ⟨b, off, spot⟩ := ad
      have hc := hcell i (by omega)
      have hspot : spot = none := by
        have := hcell 0 (by omega)
        simpa [Addr.add] using World.cell?_spot this
      subst hspot
      rw [Addr.add_lit] at hc
      exact ⟨b, off, _, rfl, (hb.cell (World.block_lt_of_cell? w _ hc)).trans hc⟩
  have hl1 : len1 ≤ cap1 ∧ cap1 ≤ maxLen := by
    rcases w1 with ⟨_, rfl, rfl, _⟩ | ⟨ad, rfl, hl, hm, _⟩
    · exact ⟨Nat.le_refl _, Nat.zero_le _⟩
    · exact ⟨hl, hm⟩
  obtain ⟨hlc, hcm⟩ := hl1
  unfold maxLen at hcm
  clear w0 w1
  go_enter Try.func4, Try.ntmps4
  go_wp2_with fail
  refine (fresh_any _ _ _ _ _ H0 hnil).mono ?_
  rintro e w1 ⟨hb1, ⟨hl, rfl⟩ | ⟨hl, g, k, rfl, hT, hR, hg, hk⟩⟩
  · go_wp2
    go_ret
    exact ⟨rfl, hb1⟩
  · go_wp2
    go_loopw [8] (fun iv wr => ∃ i : Nat, i ≤ len1 ∧ i ≤ 60 ∧ iv = .int .i64 i ∧ ∃ L, TapeAt wr g L ∧ RTapeAt wr k L ∧ Below w.heap.size w wr) (fun iv _ => 60 - (intOf iv).toNat)
    case atStart => exact ⟨0, Nat.zero_le _, by omega, rfl, bs, hT, hR, hb1⟩
    case round =>
      clear hT hR hb1 H0
      obtain ⟨i, hi, hi6, rfl, L, hT, hR, hbr⟩ := hrel
      by_cases hlt : i < len1
      · have hlti : (i : Int) < (len1 : Int) := by omega
        by_cases hlt6 : i < 60
        · have hlt6i : (i : Int) < 60 := by omega
          obtain ⟨b, off, x, rfl, hc⟩ := HI.out wr hbr i hlt
          have hne := hT.other hR
          go_wp2_with fail
          refine (take_any g L x _ hT).mono ?_
          rintro e w2 ⟨ta, tl, tc, tb, te, R, rfl, hby, -, hrt, hT2, hgr⟩
          have hR2 := hR.apart hgr hT.head (Ne.symm hne)
          have hb2 : Below w.heap.size w w2 := hbr.grown hgr hbr.size (fun q hq => by cases hq; exact hg)
          obtain ⟨b', off', x', e', hc2⟩ := HI.out w2 hb2 i hlt
          cases e'
          have hxx : x' = x := by
            have h1 := hgr.block b (World.block_lt_of_cell? wr _ hc) (fun e => by
              cases e
              obtain ⟨_, _, _, _, h1, _⟩ := hT
              rw [cell_of_row wr _ _ _ _ _ h1] at hc
              match h : off + i, hc with
              | 0, hc => simp at hc
              | j + 1, hc => simp at hc)
            have h2 := World.cell?_of_block (w := wr) (w' := w2) (a := ⟨b, off + i, none⟩) h1
            rw [h2, hc] at hc2
            simpa using hc2.symm
          subst hxx
          have HT : Hid (ResTake L x' tb te R) := hrt
          clear hT hR hrt hbr hc
          go_wp2_with fail
          refine (rtake_any k L x' _ hR2).mono ?_
          rintro e w3 ⟨ra, rl, rc, rb, re, S, rfl, hrby, -, hrr, hR3, hgr3⟩
          obtain ⟨e1, e2, e3⟩ := HT.out.unique hrr
          subst e1
          subst e2
          subst e3
          have hT3 := hT2.apart hgr3 hR2.head hne
          have hb3 : Below w.heap.size w w3 := hb2.grown hgr3 hb2.size (fun q hq => by cases hq; exact hk)
          have hby3 := hby.head hgr3 hR2.head
          have c1 := conv_any hby3
          have c2 := conv_any hrby
          clear hT2 hR2 hb2 hby hby3 hrby hrr HT hgr hgr3 hc2
          go_wp2_with fail
          refine (left_any _ _ _ hT3).mono ?_
          rintro e w4 ⟨rfl, rfl⟩
          go_wp2_with fail
          refine (rleft_any _ _ _ hR3).mono ?_
          rintro e w5 ⟨rfl, hb5⟩
          have hT5 := hT3.below hb5
          have hR5 := hR3.below hb5
          have hB5 := hb3.trans (hb5.mono hb3.size)
          clear hT3 hR3 hb3 hb5 c1 c2
          go_wp2
          go_roundw
          case rel => exact ⟨i + 1, by omega, by omega, by go_num, R, hT5, hR5, hB5⟩
          case measure => simp [intOf]; omega
        · have hd : decide ((i : Int) < 60) = false := by simp; omega
          go_wp2
          go_ret
          exact ⟨rfl, hbr⟩
      · have hd : decide ((i : Int) < (len1 : Int)) = false := by simp; omega
        go_wp2
        go_ret
        exact ⟨rfl, hbr⟩

set_option maxRecDepth 100000 in
theorem lifted (os : Os) (started : os.Started) (H : Type) (enc : TypeId × Value → H) :
    ReturnsInHanded {} Try.checked os 4 .any (Rows.tapeTakesSpec.pre6 enc Try.prog Try.f4 Rows.tapeTakesRow.domain false) (Rows.tapeTakesSpec.post enc Try.prog Try.f4 false true false false) := by
  refine returnsInHanded_of_change (C := Try.checked) own started (by kernel_rfl) Try.func4
    (ChangeSpec.witness6 (enc := enc) (C := Try.checked) false ⟨#[], #[.slice none 0 0, .slice none 0 0], []⟩ 8 (by kernel_rfl) (by kernel_rfl) (by kernel_rfl) (by kernel_rfl)) ?_
  intro W base args ds gs before hval0 hW hcnd _
  have hval : ∀ (j : Nat) t v, Try.f4.params[j]? = some t → args[j]? = some v → Value.okWide Try.prog W .any base t v := hval0
  have hW' := hW
  obtain ⟨p, q, hA0, hV, rfl, hfz, hnd⟩ := hW
  have hA : DataW.TrodAll enc Try.prog W 0 (fun _ => true) true Try.f4.params.toList args.toList ds p := hA0
  rw [Try.params4] at hA hval
  obtain ⟨v0, vs0, d0, ds0, p0, q0, hargs, rfl, rfl, h0, r0⟩ := trodAll_cons hA
  obtain ⟨v1, vs1, d1, ds1, p1, q1, rfl, rfl, rfl, h1, r1⟩ := trodAll_cons r0
  obtain ⟨rfl, rfl, rfl⟩ := trodAll_nil r1
  obtain rfl : args = #[v0, v1] := by cases args; simp_all
  obtain ⟨rfl, rfl⟩ := trodVars_none hV
  obtain ⟨a0, len0, cap0, rfl⟩ := okWide_slice Try.underlying22 (hval 0 22 v0 rfl rfl)
  have k0 := h0
  have lt0 : ∀ x ∈ p0, x.block < W.heap.size := by obtain ⟨m, hm⟩ := k0; exact DataW.trod_lt m _ _ _ hm
  obtain ⟨z0, w0⟩ : ∃ zs, IsRow .u8 W a0 len0 cap0 zs := by
    obtain ⟨fuel, hf⟩ := h0
    obtain ⟨a, l, c, zs, e, hz⟩ := open_oneB hf
    simp at e
    obtain ⟨rfl, rfl, rfl⟩ := e
    exact ⟨zs, hz⟩
  obtain ⟨a1, len1, cap1, rfl⟩ := okWide_slice Try.underlying29 (hval 1 29 v1 rfl rfl)
  have k1 := h1
  have lt1 : ∀ x ∈ p1, x.block < W.heap.size := by obtain ⟨m, hm⟩ := k1; exact DataW.trod_lt m _ _ _ hm
  obtain ⟨z1, w1⟩ : ∃ zs, IsRow .i64 W a1 len1 cap1 zs := by
    obtain ⟨fuel, hf⟩ := h1
    obtain ⟨a, l, c, zs, e, hz⟩ := open_oneL hf
    simp at e
    obtain ⟨rfl, rfl, rfl⟩ := e
    exact ⟨zs, hz⟩
  clear hA0 hval0
  refine (walk a0 len0 cap0 z0 a1 len1 cap1 z1 W w0 w1).mono fun e W' ⟨he, bel⟩ => ?_
  subst he
  exact ⟨_, rfl, _, _, _, [], _, [], hW', trodAll_mk1 (shut_bool Try.underlying4 _), (trodAll_cons_mk (Below.trod laidOut (by kernel_rfl) (of_decide_eq_true (by kernel_rfl)) k0 bel lt0) (trodAll_cons_mk (Below.trod laidOut (by kernel_rfl) (of_decide_eq_true (by kernel_rfl)) k1 bel lt1) trodAll_mk0)), rfl, bel.frame _, fun h => by cases h⟩

theorem over : Rows.tapeTakesRow.holds Try.pinned (OpenSpec.ofChange Rows.tapeTakesSpec) :=
  OpenClaim.holds_of_wide 4 Try.f4 rfl rfl rfl rfl rfl rfl rfl ⟨rfl, rfl, rfl, rfl, rfl⟩ rfl rfl rfl rfl rfl (by kernel_rfl) Try.func4 (by kernel_rfl)
    (of_decide_eq_true (by kernel_rfl)) (by unfold Func.isWrapper; first | (rw [if_pos (by decide +kernel)]; kernel_rfl) | (rw [if_neg (by decide +kernel)]; exact ⟨rfl, rfl⟩))
    (fun os started H enc _ => lifted os started H enc)

theorem proved : Rows.TapeTakesSaid := over
end Go.Proofs.Ytfafbggijhghcaa.tapeTakes
namespace Go.Proofs.Ytfafbggijhghcaa
theorem tapeTakes_holds : Rows.TapeTakesSaid := tapeTakes.proved
#print axioms tapeTakes_holds
end Go.Proofs.Ytfafbggijhghcaa

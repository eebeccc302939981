/-
  The statement NatBytes holds of the code at the commit that is named beside it, for every input.
-/
import Derived.Test.YtfafbggijhghcabRows
import Derived.Test.YtfafbggijhghcabBConv
import Derived.Test.YtfafbggijhghcabNatB
import Derived.WalkKit
import Derived.ProofKit
import Derived.OpenShut
import Derived.ShutString
import Derived.ChangeOld
import Derived.Below
import Derived.Deep.Cut
import Derived.Deep.DeepCutAuto
import Derived.Deep.RegionWith
import Derived.BigRegion
import Derived.Deep.RegionHeld
namespace Go.Proofs.Ytfafbggijhghcab.natBytes
open Go.ChangeShapes Go.WideShapes Go.ChangeAt Go.RowKit
open Go.ChangeMaps (open_string shut_string)
set_option linter.unusedVariables false

theorem own : ownKnob Try.prog.godebug = none := by kernel_rfl
theorem laidOut : laidOutB Try.prog = true := by kernel_rfl

theorem open_one {H : Type} {enc : TypeId × Value → H} {W : World} {m : Nat} {c : Value} {x : DataW H × List MemPlace} (hf : DataW.trod enc Try.prog W 0 (fun _ => true) true m 23 [c] = some x) : ∃ a len cap zs, c = .slice a len cap ∧ IsRow .u64 W a len cap zs := by
  rcases open_ints Try.underlying23 Try.underlying30 (by kernel_rfl) hf with ⟨hcs, _⟩ | ⟨x, l, c, zs, hcs, _, hl, hm, hz, _, hcell, hwz⟩
  · simp at hcs
    exact ⟨none, 0, 0, [], hcs, .inl ⟨rfl, rfl, rfl, rfl⟩⟩
  · simp at hcs
    exact ⟨_, _, _, zs, hcs, .inr ⟨_, rfl, hl, hm, by simpa using hz, hcell, hwz⟩⟩

theorem open_oneB {H : Type} {enc : TypeId × Value → H} {W : World} {m : Nat} {c : Value} {x : DataW H × List MemPlace} (hf : DataW.trod enc Try.prog W 0 (fun _ => true) true m 41 [c] = some x) : ∃ a len cap zs, c = .slice a len cap ∧ IsRow .u8 W a len cap zs := by
  rcases open_ints Try.underlying41 Try.underlying5 (by kernel_rfl) hf with ⟨hcs, _⟩ | ⟨x, l, c, zs, hcs, _, hl, hm, hz, _, hcell, hwz⟩
  · simp at hcs
    exact ⟨none, 0, 0, [], hcs, .inl ⟨rfl, rfl, rfl, rfl⟩⟩
  · simp at hcs
    exact ⟨_, _, _, zs, hcs, .inr ⟨_, rfl, hl, hm, by simpa using hz, hcell, hwz⟩⟩

set_option maxRecDepth 100000 in
set_option maxHeartbeats 6000000 in
theorem walk (a0 : Option Addr) (len0 cap0 : Nat) (z0 : List Int) (a1 : Option Addr) (len1 cap1 : Nat) (z1 : List Int) (w : World) (w0 : IsRow .u64 w a0 len0 cap0 z0) (w1 : IsRow .u8 w a1 len1 cap1 z1) :
    Calls Try.prog 5 #[.slice a0 len0 cap0, .slice a1 len1 cap1] w fun e w' => e = .returned (.bool true) ∧ Below w.heap.size w w' := by
  have H0 := Nums.of_row w0
  have H1 := Byts.of_row w1
  have F := few_one a0 len0 cap0 _ w H0
  generalize z0.take len0 = zs at H0 F
  generalize z1.take len1 = bs at H1
  cases hf : fewB [len0] with
  | false =>
    rw [hf] at F
    go_enter Try.func5, Try.ntmps5
    go_wp2_with fail
    refine F.mono ?_
    rintro e w' ⟨rfl, -, hb⟩
    go_wp2_with fail
    go_ret
    exact ⟨rfl, hb⟩
  | true =>
    rw [hf] at F
    clear w0 w1 H0 hf
    go_enter Try.func5, Try.ntmps5
    go_wp2_with fail
    refine F.mono ?_
    rintro e v0 ⟨rfl, A0, hB0⟩
    have C0 := H1.below hB0
    clear F H1
    go_wp2_with fail
    refine (bytes_any _ _ _ _ _ A0).mono ?_
    rintro e v1 ⟨xn, xs, rfl, X1, hxr, -, hb1⟩
    have HX : Hid (ResBytes zs xs) := hxr
    have A1 := A0.below hb1
    have C1 := C0.below hb1
    have hB1 := hB0.trans (hb1.mono hB0.size)
    clear hxr hb1 hB0 A0 C0
    generalize v0.heap.size = g at *
    go_wp2_with fail
    refine (read_any _ _ _ _ _ C1).mono ?_
    rintro e v2 ⟨ya, yn, yc, ys, ye, rfl, Y2, hyr, hb2⟩
    have HY : Hid (Res (val 256 bs.reverse) ys ye) := hyr
    have A2 := A1.below hb2
    have C2 := C1.below hb2
    have X2 := X1.below hb2
    have hB2 := hB1.trans (hb2.mono hB1.size)
    clear hyr hb2 hB1 A1 C1 X1
    go_wp2_with fail
    refine (refRead_any _ _ _ _ _ C2).mono ?_
    rintro e v3 ⟨ra, rn, rc, rs, re, rfl, R3, hrr, hb3⟩
    obtain ⟨e1, e2⟩ := HY.out.unique hrr
    subst e1
    subst e2
    have A3 := A2.below hb3
    have X3 := X2.below hb3
    have Y3 := Y2.below hb3
    have hB3 := hB2.trans (hb3.mono hB2.size)
    clear hrr HY hb3 hB2 A2 X2 Y2 C2
    go_wp2_with fail
    refine (same_any _ _ _ _ _ _ _ _ _ Y3 R3).mono ?_
    rintro e v4 ⟨rfl, hb4⟩
    rw [sameB_self]
    have L4 := Byts.lit1 v4 1 (by omega) 5
    have b4 := (Below.refl v4.heap.size v4).alloc (Nat.le_refl _) (.cells #[.int .u8 1] 5)
    have A4 := (A3.below hb4).below b4
    have X4 := (X3.below hb4).below b4
    have hB4 := hB3.trans (hb4.mono hB3.size)
    have hB4' := hB4.alloc hB4.size (.cells #[.int .u8 1] 5)
    clear hb4 hB3 A3 X3 Y3 R3 b4 hB4
    go_wp2_with fail
    refine (read_any _ _ _ [1] _ L4).mono ?_
    rintro e v5 ⟨oa, on, oc, os, oe, rfl, O5, hor, hb5⟩
    have h1 : on = 1 := by
      have := read_one hor
      have := O5.hlen
      omega
    subst h1
    have A5 := A4.below hb5
    have X5 := X4.below hb5
    have hB5 := hB4'.trans (hb5.mono hB4'.size)
    clear hor O5 hb5 hB4' A4 X4 L4
    obtain ⟨S, hS⟩ : ∃ S, S = strOf xs := ⟨_, rfl⟩
    have X5' : Byts v5.drew (some ⟨g, 0, none⟩) xn xn xs := ⟨X5.hlen, X5.hcap, X5.hmax, X5.cells, X5.word⟩
    have c1 := conv_any X5'
    rw [← hS] at c1
    have HRB : Hid (∀ wx, Nums wx a0 len0 cap0 zs → Byts wx (some ⟨g, 0, none⟩) xn xn xs → Below w.heap.size w wx → Calls Try.prog 22 #[.slice a0 len0 cap0] wx fun e w' => ∃ ta tn tc, e = .returned (.slice ta tn tc) ∧ Below w.heap.size w w' ∧
        (convert 41 9 (.slice (some ⟨g, 0, none⟩) xn xn)).run Try.prog w' = .ok (.string S) w' ∧ (convert 41 9 (.slice ta tn tc)).run Try.prog w' = .ok (.string S) w') := by
      intro wx n1 n2 n3
      refine (refBytes_any _ _ _ _ _ n1).mono ?_
      rintro e w' ⟨ta, tn, tc, ts, rfl, ht, htr, -, hb'⟩
      have e1 : xs = ts := HX.out.unique htr
      subst e1
      refine ⟨ta, tn, tc, rfl, n3.trans (hb'.mono n3.size), ?_, ?_⟩
      · rw [hS]; exact conv_any (n2.below hb')
      · rw [hS]; exact conv_any ht
    clear hS HX X5'
    go_wp2_with fail
    go_region_held (fun w' => (convert 41 9 (.slice (some ⟨g, 0, none⟩) xn xn)).run Try.prog w' = .ok (.string S) w') (first | exact c1 | exact k1 | assumption) ((go_at_call 22; refine (HRB.out _ ?_ ?_ ?_).mono ?_; (exact ⟨A5.hlen, A5.hcap, A5.hmax, A5.cells, A5.word⟩); (exact ⟨X5.hlen, X5.hcap, X5.hmax, X5.cells, X5.word⟩); (exact ⟨hB5.os, hB5.tape, hB5.output, hB5.size, hB5.block⟩); rintro e w6 ⟨ta, tn, tc, rfl, hB6, k1, k2⟩))
    all_goals
      go_wp2
      go_ret
      exact ⟨by simp, ⟨hB6.os, hB6.tape, hB6.output, hB6.size, hB6.block⟩⟩

set_option maxRecDepth 100000 in
theorem lifted (os : Os) (started : os.Started) (H : Type) (enc : TypeId × Value → H) :
    ReturnsInHanded {} Try.checked os 5 .any (Rows.natBytesSpec.pre6 enc Try.prog Try.f5 Rows.natBytesRow.domain false) (Rows.natBytesSpec.post enc Try.prog Try.f5 false true false false) := by
  refine returnsInHanded_of_change (C := Try.checked) own started (by kernel_rfl) Try.func5
    (ChangeSpec.witness6 (enc := enc) (C := Try.checked) false ⟨#[], #[.slice none 0 0, .slice none 0 0], []⟩ 8 (by kernel_rfl) (by kernel_rfl) (by kernel_rfl) (by kernel_rfl)) ?_
  intro W base args ds gs before hval0 hW hcnd _
  have hval : ∀ (j : Nat) t v, Try.f5.params[j]? = some t → args[j]? = some v → Value.okWide Try.prog W .any base t v := hval0
  have hW' := hW
  obtain ⟨p, q, hA0, hV, rfl, hfz, hnd⟩ := hW
  have hA : DataW.TrodAll enc Try.prog W 0 (fun _ => true) true Try.f5.params.toList args.toList ds p := hA0
  rw [Try.params5] at hA hval
  obtain ⟨v0, vs0, d0, ds0, p0, q0, hargs, rfl, rfl, h0, r0⟩ := trodAll_cons hA
  obtain ⟨v1, vs1, d1, ds1, p1, q1, rfl, rfl, rfl, h1, r1⟩ := trodAll_cons r0
  obtain ⟨rfl, rfl, rfl⟩ := trodAll_nil r1
  obtain rfl : args = #[v0, v1] := by cases args; simp_all
  obtain ⟨rfl, rfl⟩ := trodVars_none hV
  obtain ⟨a0, len0, cap0, rfl⟩ := okWide_slice Try.underlying23 (hval 0 23 v0 rfl rfl)
  have k0 := h0
  have lt0 : ∀ x ∈ p0, x.block < W.heap.size := by obtain ⟨m, hm⟩ := k0; exact DataW.trod_lt m _ _ _ hm
  obtain ⟨z0, w0⟩ : ∃ zs, IsRow .u64 W a0 len0 cap0 zs := by
    obtain ⟨fuel, hf⟩ := h0
    obtain ⟨a, l, c, zs, e, hz⟩ := open_one hf
    simp at e
    obtain ⟨rfl, rfl, rfl⟩ := e
    exact ⟨zs, hz⟩
  obtain ⟨a1, len1, cap1, rfl⟩ := okWide_slice Try.underlying41 (hval 1 41 v1 rfl rfl)
  have k1 := h1
  have lt1 : ∀ x ∈ p1, x.block < W.heap.size := by obtain ⟨m, hm⟩ := k1; exact DataW.trod_lt m _ _ _ hm
  obtain ⟨z1, w1⟩ : ∃ zs, IsRow .u8 W a1 len1 cap1 zs := by
    obtain ⟨fuel, hf⟩ := h1
    obtain ⟨a, l, c, zs, e, hz⟩ := open_oneB hf
    simp at e
    obtain ⟨rfl, rfl, rfl⟩ := e
    exact ⟨zs, hz⟩
  clear hA0 hval0
  refine (walk a0 len0 cap0 z0 a1 len1 cap1 z1 W w0 w1).mono fun e W' ⟨he, bel⟩ => ?_
  subst he
  exact ⟨_, rfl, _, _, _, [], _, [], hW', trodAll_mk1 (shut_bool Try.underlying4 _), (trodAll_cons_mk (Below.trod laidOut (by kernel_rfl) (of_decide_eq_true (by kernel_rfl)) k0 bel lt0) (trodAll_cons_mk (Below.trod laidOut (by kernel_rfl) (of_decide_eq_true (by kernel_rfl)) k1 bel lt1) trodAll_mk0)), rfl, bel.frame _, fun h => by cases h⟩

theorem over : Rows.natBytesRow.holds Try.pinned (OpenSpec.ofChange Rows.natBytesSpec) :=
  OpenClaim.holds_of_wide 5 Try.f5 rfl rfl rfl rfl rfl rfl rfl ⟨rfl, rfl, rfl, rfl, rfl⟩ rfl rfl rfl rfl rfl (by kernel_rfl) Try.func5 (by kernel_rfl)
    (of_decide_eq_true (by kernel_rfl)) (by unfold Func.isWrapper; first | (rw [if_pos (by decide +kernel)]; kernel_rfl) | (rw [if_neg (by decide +kernel)]; exact ⟨rfl, rfl⟩))
    (fun os started H enc _ => lifted os started H enc)

theorem proved : Rows.NatBytesSaid := over
end Go.Proofs.Ytfafbggijhghcab.natBytes
namespace Go.Proofs.Ytfafbggijhghcab
theorem natBytes_holds : Rows.NatBytesSaid := natBytes.proved
#print axioms natBytes_holds
end Go.Proofs.Ytfafbggijhghcab

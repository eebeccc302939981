/-
  The statement TapeTwice holds of the code at the commit that is named beside it, for every input.
-/
import Derived.Test.YtfafbggijhghcaaRows
import Derived.Test.YtfafbggijhghcaaTapeF
import Derived.WalkKit
import Derived.ProofKit
import Derived.OpenShut
import Derived.ShutString
import Derived.ChangeOld
import Derived.Below
import Derived.Deep.Cut
import Derived.Deep.DeepCutAuto
import Derived.Deep.RegionWith
import Derived.BigRegion
import Derived.Laws.Concat
namespace Go.Proofs.Ytfafbggijhghcaa.tapeTwice
open Go.ChangeShapes Go.WideShapes Go.ChangeAt Go.RowKit
open Go.ChangeMaps (open_string shut_string)
set_option linter.unusedVariables false

theorem own : ownKnob Try.prog.godebug = none := by kernel_rfl
theorem laidOut : laidOutB Try.prog = true := by kernel_rfl

theorem open_oneB {H : Type} {enc : TypeId × Value → H} {W : World} {m : Nat} {c : Value} {x : DataW H × List MemPlace} (hf : DataW.trod enc Try.prog W 0 (fun _ => true) true m 22 [c] = some x) : ∃ a len cap zs, c = .slice a len cap ∧ IsRow .u8 W a len cap zs := by
  rcases open_ints Try.underlying22 Try.underlying5 (by kernel_rfl) hf with ⟨hcs, _⟩ | ⟨x, l, c, zs, hcs, _, hl, hm, hz, _, hcell, hwz⟩
  · simp at hcs
    exact ⟨none, 0, 0, [], hcs, .inl ⟨rfl, rfl, rfl, rfl⟩⟩
  · simp at hcs
    exact ⟨_, _, _, zs, hcs, .inr ⟨_, rfl, hl, hm, by simpa using hz, hcell, hwz⟩⟩

theorem Byts.head0 {w : World} {a : Option Addr} {len cap : Nat} {zs : List Int} (h : Byts w a len cap zs) {k : Nat} (hk : k ≤ len) : Byts w a k cap (zs.take k) := by
  have hl := h.hlen
  refine ⟨by simp; omega, Nat.le_trans hk h.hcap, h.hmax, fun hp => ?_, fun x hx => h.word x (List.mem_of_mem_take hx)⟩
  obtain ⟨b, off, ha, hc⟩ := h.cells (by omega)
  refine ⟨b, off, ha, fun i hi => ?_⟩
  rw [hc i (by omega)]
  simp [List.getD, hi]

theorem strOf_list (bs : List Int) (r : ByteArray) : (bs.foldl (fun r n => r.push (UInt8.ofNat n.toNat)) r).data.toList = r.data.toList ++ bs.map (fun n => UInt8.ofNat n.toNat) := by
  induction bs generalizing r with
  | nil => simp
  | cons x l ih => rw [List.foldl_cons, ih]; simp [ByteArray.push]
theorem strOf_append (x y : List Int) : strOf (x ++ y) = strOf x ++ strOf y := by
  apply ByteArray.ext
  apply Array.toList_inj.1
  rw [ByteArray.data_append, Array.toList_append]
  unfold strOf
  rw [strOf_list, strOf_list, strOf_list]
  simp
theorem strOf_size (x : List Int) : (strOf x).size = x.length := by
  have := congrArg List.length (strOf_list x ByteArray.empty)
  simp at this
  exact this

theorem take_twice (bs : List Int) (m n : Nat) : bs.take m ++ (bs.drop m).take n = bs.take (m + n) := by
  rw [List.take_add]

theorem conv_in {w : World} {a : Option Addr} {n c : Nat} {bs : List Int} (h : Byts w a n c bs) : ∀ k, (convert 22 9 (.slice a n c)).run Try.prog (w.drewN k) = .ok (.string (strOf bs)) (w.drewN k) := fun k =>
  conv_any (w := w.drewN k) ⟨h.hlen, h.hcap, h.hmax, h.cells, h.word⟩
set_option maxHeartbeats 1600000 in
theorem walk (a0 : Option Addr) (len0 cap0 : Nat) (z0 : List Int) (x0 : Int) (x1 : Int) (w : World) (w0 : IsRow .u8 w a0 len0 cap0 z0) (h0 : (Lit.int .i64 x0).wf = true) (h1 : (Lit.int .i64 x1).wf = true) :
    Calls Try.prog 5 #[.slice a0 len0 cap0, .int .i64 x0, .int .i64 x1] w fun e w' => e = .returned (.bool true) ∧ Below w.heap.size w w' := by
  have H0 := Byts.of_row w0
  have hnil0 := row_nil w0
  generalize z0.take len0 = bs at H0
  have hm := int_of_wf h0
  have hn := int_of_wf h1
  have hc0 := H0.hcap
  have hm0 := H0.hmax
  unfold maxLen at hm0
  clear w0 h0 h1
  go_enter Try.func5, Try.ntmps5
  go_wp2_with fail
  refine (fresh_any _ _ _ _ _ H0 hnil0).mono ?_
  rintro e v1 ⟨hb1, ⟨hl, rfl⟩ | ⟨hl, g, k, rfl, hT, -, hg, -⟩⟩
  · go_wp2_with fail
    refine (fresh_any _ _ _ _ _ (H0.below hb1) hnil0).mono ?_
    rintro e v2 ⟨hb2, ⟨hl2, rfl⟩ | ⟨hl2, _⟩⟩
    · go_wp2
      go_ret
      exact ⟨rfl, hb1.trans (hb2.mono hb1.size)⟩
    · omega
  · have A1 := H0.below hb1
    go_wp2_with fail
    refine (fresh_any _ _ _ _ _ A1 hnil0).mono ?_
    rintro e v2 ⟨hb2, ⟨hl2, rfl⟩ | ⟨-, g', k', rfl, hT', -, hg', -⟩⟩
    · omega
    have A2 := A1.below hb2
    have hT2 := hT.below hb2
    have hB2 := hb1.trans (hb2.mono hb1.size)
    have hne : g ≠ g' := by have := hT.lt; omega
    have hgw : w.heap.size ≤ g' := Nat.le_trans hb1.size hg'
    clear hT A1 H0 hb1 hb2
    by_cases c0 : x0 < 0
    · go_wp2
      go_ret
      exact ⟨rfl, hB2⟩
    have d0 : decide (x0 < 0) = false := decide_eq_false c0
    by_cases c1 : x1 < 0
    · go_wp2
      go_ret
      exact ⟨rfl, hB2⟩
    have d1 : decide (x1 < 0) = false := decide_eq_false c1
    by_cases c2 : 65536 < x0
    · go_wp2
      go_ret
      exact ⟨rfl, hB2⟩
    have d2 : decide (65536 < x0) = false := decide_eq_false c2
    by_cases c3 : 65536 < x1
    · go_wp2
      go_ret
      exact ⟨rfl, hB2⟩
    have d3 : decide (65536 < x1) = false := decide_eq_false c3
    obtain ⟨m, rfl⟩ : ∃ m : Nat, x0 = (m : Int) := ⟨x0.toNat, by omega⟩
    obtain ⟨n, rfl⟩ : ∃ n : Nat, x1 = (n : Int) := ⟨x1.toNat, by omega⟩
    have s0 : (0 : Int) ≤ (m : Int) + (n : Int) := by omega
    have s1 : (m : Int) + (n : Int) ≤ 131072 := by omega
    have s7 : IntKind.i64.wrap ((m : Int) + (n : Int)) = (m : Int) + (n : Int) := by simp [IntKind.wrap, IntKind.signed, IntKind.bits]; omega
    by_cases c4 : (len0 : Int) < (m : Int) + (n : Int)
    · go_wp2
      go_ret
      exact ⟨rfl, hB2⟩
    have d4 : decide ((len0 : Int) < (m : Int) + (n : Int)) = false := decide_eq_false c4
    have hbl := A2.hlen
    have hmn : m + n ≤ len0 := by omega
    have HBL : Hid (bs.length = len0) := hbl
    have hh := hT2.head
    clear hbl c0 c1 c2 c3 c4
    go_wp2_with fail
    refine (take_any g bs m _ hT2).mono ?_
    rintro e v3 ⟨xa, xl, xc, xb, xe, R, rfl, hx, -, hrx, hT3, hg3⟩
    obtain ⟨rfl, rfl, rfl⟩ := hrx.ok (by have := HBL.out; omega) (by omega)
    have A3 := A2.head hg3 hh
    have hU3 := hT'.apart hg3 hh (Ne.symm hne)
    have hB3 : Below w.heap.size w v3 := hB2.grown hg3 hB2.size (fun q hq => by cases hq; exact hg)
    have hh3 := hT3.head
    clear hrx A2 hT2 hT' hg3 hB2 hh
    go_wp2_with fail
    refine (take_any g _ n _ hT3).mono ?_
    rintro e v4 ⟨ya, yl, yc, yb, ye, R, rfl, hy, -, hry, hT4, hg4⟩
    obtain ⟨rfl, rfl, rfl⟩ := hry.ok (by have := HBL.out; simp; omega) (by omega)
    have A4 := A3.head hg4 hh3
    have hx4 := hx.head hg4 hh3
    have hU4 := hU3.apart hg4 hh3 (Ne.symm hne)
    have hB4 : Below w.heap.size w v4 := hB3.grown hg4 hB3.size (fun q hq => by cases hq; exact hg)
    have hh4 := hU4.head
    clear hry A3 hT3 hU3 hg4 hB3 hh3 hx hT4
    have HTk : Hid (Calls Try.prog 12 #[.pointer (some ⟨g', 0, none⟩), .int .i64 ((m : Int) + (n : Int))] v4 fun e w' => TakeT TapeAt v4 g' bs ((m + n : Nat) : Int) e w') := by
      have := take_any g' bs ((m + n : Nat) : Int) v4 hU4
      rw [show (((m + n : Nat) : Int)) = (m : Int) + (n : Int) by omega] at this
      rw [show (((m + n : Nat) : Int)) = (m : Int) + (n : Int) by omega]
      exact this
    go_wp2_with fail
    refine HTk.out.mono ?_
    rintro e v5 ⟨za, zl, zc, zb, ze, R, rfl, hz, -, hrz, -, hg5⟩
    obtain ⟨rfl, rfl, rfl⟩ := hrz.ok (by have := HBL.out; omega) (by have := HBL.out; omega)
    have A5 := A4.head hg5 hh4
    have hx5 := hx4.head hg5 hh4
    have hy5 := hy.head hg5 hh4
    have hB5 : Below w.heap.size w v5 := hB4.grown hg5 hB4.size (fun q hq => by cases hq; exact hgw)
    have hp := Byts.head0 A5 hmn
    have c1 := conv_in hx5
    have c2 := conv_in hy5
    have c3 := conv_in hz
    have c4 := conv_in hp
    have hS : strOf (bs.take m) ++ strOf ((bs.drop m).take n) = strOf (bs.take (m + n)) := by rw [← strOf_append, take_twice]
    have HS : Hid (strOf (bs.take m) ++ strOf ((bs.drop m).take n) = strOf (bs.take (m + n))) := hS
    have z1 : (strOf (bs.take m)).size + (strOf ((bs.drop m).take n)).size ≤ 9223372036854775807 := by rw [strOf_size, strOf_size]; have := HBL.out; simp; omega
    have z2 : (9223372036854775807 < (strOf (bs.take m)).size + (strOf ((bs.drop m).take n)).size) = False := eq_false (by omega)
    have s2 : (m : Int) + (n : Int) ≤ (cap0 : Int) := by omega
    have s6 : ((m : Int) + (n : Int)).toNat = m + n := by omega
    clear hrz hU4 hg5 hB4 hh4 hx4 hy hz hp A4 A5 hx5 hy5 HTk HS z1
    generalize strOf (bs.take m) = sx at *
    generalize strOf ((bs.drop m).take n) = sy at *
    generalize strOf (bs.take (m + n)) = sz at *
    go_wp2_with fail
    go_quiet (fail)
    go_wp2
    go_ret
    exact ⟨by simp, ⟨hB5.os, hB5.tape, hB5.output, hB5.size, hB5.block⟩⟩

set_option maxRecDepth 100000 in
theorem lifted (os : Os) (started : os.Started) (H : Type) (enc : TypeId × Value → H) :
    ReturnsInHanded {} Try.checked os 5 .any (Rows.tapeTwiceSpec.pre6 enc Try.prog Try.f5 Rows.tapeTwiceRow.domain false) (Rows.tapeTwiceSpec.post enc Try.prog Try.f5 false true false false) := by
  refine returnsInHanded_of_change (C := Try.checked) own started (by kernel_rfl) Try.func5
    (ChangeSpec.witness6 (enc := enc) (C := Try.checked) false ⟨#[], #[.slice none 0 0, .int .i64 0, .int .i64 0], []⟩ 8 (by kernel_rfl) (by kernel_rfl) (by kernel_rfl) (by kernel_rfl)) ?_
  intro W base args ds gs before hval0 hW hcnd _
  have hval : ∀ (j : Nat) t v, Try.f5.params[j]? = some t → args[j]? = some v → Value.okWide Try.prog W .any base t v := hval0
  have hW' := hW
  obtain ⟨p, q, hA0, hV, rfl, hfz, hnd⟩ := hW
  have hA : DataW.TrodAll enc Try.prog W 0 (fun _ => true) true Try.f5.params.toList args.toList ds p := hA0
  rw [Try.params5] at hA hval
  obtain ⟨v0, vs0, d0, ds0, p0, q0, hargs, rfl, rfl, h0, r0⟩ := trodAll_cons hA
  obtain ⟨v1, vs1, d1, ds1, p1, q1, rfl, rfl, rfl, h1, r1⟩ := trodAll_cons r0
  obtain ⟨v2, vs2, d2, ds2, p2, q2, rfl, rfl, rfl, h2, r2⟩ := trodAll_cons r1
  obtain ⟨rfl, rfl, rfl⟩ := trodAll_nil r2
  obtain rfl : args = #[v0, v1, v2] := by cases args; simp_all
  obtain ⟨rfl, rfl⟩ := trodVars_none hV
  obtain ⟨a0, len0, cap0, rfl⟩ := okWide_slice Try.underlying22 (hval 0 22 v0 rfl rfl)
  have k0 := h0
  have lt0 : ∀ x ∈ p0, x.block < W.heap.size := by obtain ⟨m, hm⟩ := k0; exact DataW.trod_lt m _ _ _ hm
  obtain ⟨z0, w0⟩ : ∃ zs, IsRow .u8 W a0 len0 cap0 zs := by
    obtain ⟨fuel, hf⟩ := h0
    obtain ⟨a, l, c, zs, e, hz⟩ := open_oneB hf
    simp at e
    obtain ⟨rfl, rfl, rfl⟩ := e
    exact ⟨zs, hz⟩
  have k1 := h1
  have lt1 : ∀ x ∈ p1, x.block < W.heap.size := by obtain ⟨m, hm⟩ := k1; exact DataW.trod_lt m _ _ _ hm
  obtain ⟨x0, hv1, -, -, i0⟩ := open_int Try.underlying3 (hval 1 3 v1 rfl rfl) h1
  subst hv1
  have k2 := h2
  have lt2 : ∀ x ∈ p2, x.block < W.heap.size := by obtain ⟨m, hm⟩ := k2; exact DataW.trod_lt m _ _ _ hm
  obtain ⟨x1, hv2, -, -, i1⟩ := open_int Try.underlying3 (hval 2 3 v2 rfl rfl) h2
  subst hv2
  clear hA0 hval0
  refine (walk a0 len0 cap0 z0 x0 x1 W w0 i0 i1).mono fun e W' ⟨he, bel⟩ => ?_
  subst he
  exact ⟨_, rfl, _, _, _, [], _, [], hW', trodAll_mk1 (shut_bool Try.underlying4 _), (trodAll_cons_mk (Below.trod laidOut (by kernel_rfl) (of_decide_eq_true (by kernel_rfl)) k0 bel lt0) (trodAll_cons_mk (Below.trod laidOut (by kernel_rfl) (of_decide_eq_true (by kernel_rfl)) k1 bel lt1) (trodAll_cons_mk (Below.trod laidOut (by kernel_rfl) (of_decide_eq_true (by kernel_rfl)) k2 bel lt2) trodAll_mk0))), rfl, bel.frame _, fun h => by cases h⟩

theorem over : Rows.tapeTwiceRow.holds Try.pinned (OpenSpec.ofChange Rows.tapeTwiceSpec) :=
  OpenClaim.holds_of_wide 5 Try.f5 rfl rfl rfl rfl rfl rfl rfl ⟨rfl, rfl, rfl, rfl, rfl⟩ rfl rfl rfl rfl rfl (by kernel_rfl) Try.func5 (by kernel_rfl)
    (of_decide_eq_true (by kernel_rfl)) (by unfold Func.isWrapper; first | (rw [if_pos (by decide +kernel)]; kernel_rfl) | (rw [if_neg (by decide +kernel)]; exact ⟨rfl, rfl⟩))
    (fun os started H enc _ => lifted os started H enc)

theorem proved : Rows.TapeTwiceSaid := over
end Go.Proofs.Ytfafbggijhghcaa.tapeTwice
namespace Go.Proofs.Ytfafbggijhghcaa
theorem tapeTwice_holds : Rows.TapeTwiceSaid := tapeTwice.proved
#print axioms tapeTwice_holds
end Go.Proofs.Ytfafbggijhghcaa

/-
  The statement CodecReads holds of the code at the commit that is named beside it, for every input.
-/
import Derived.Test.YtfnhaenoaneoeaaRows
import Derived.Test.YtfnhaenoaneoeaaP9LawsR
import Derived.Test.YtfnhaenoaneoeaaX9D
import Derived.Lib.SmallJoins
import Derived.WalkKit
import Derived.ProofKit
import Derived.OpenShut
import Derived.ShutString
import Derived.ChangeOld
import Derived.Below
import Derived.Deep.Cut
import Derived.Deep.DeepCutAuto
import Derived.Deep.RegionWith
import Derived.BigRegion
import Derived.SizedLaws
namespace Go.Proofs.Ytfnhaenoaneoeaa.codecReads
open Go.ChangeShapes Go.WideShapes Go.ChangeAt Go.RowKit
open Go.ChangeMaps (open_string shut_string)
set_option linter.unusedVariables false

theorem own : ownKnob Try.prog.godebug = none := by kernel_rfl
theorem laidOut : laidOutB Try.prog = true := by kernel_rfl

theorem open_oneW {H : Type} {enc : TypeId × Value → H} {W : World} {m : Nat} {c : Value} {x : DataW H × List MemPlace} (hf : DataW.trod enc Try.prog W 0 (fun _ => true) true m 23 [c] = some x) : ∃ a len cap zs, c = .slice a len cap ∧ IsRow .u8 W a len cap zs ∧ (cap = 0 ∨ ∃ es sp, x.1 = .slice es sp ∧ es.length + sp.length = cap) := by
  rcases open_ints Try.underlying23 Try.underlying5 (by kernel_rfl) hf with ⟨hcs, _⟩ | ⟨x, l, c, zs, hcs, _, hl, hm, hz, hx, hcell, hwz⟩
  · simp at hcs
    exact ⟨none, 0, 0, [], hcs, .inl ⟨rfl, rfl, rfl, rfl⟩, .inl rfl⟩
  · simp at hcs
    have hz' : zs.length = c := by simpa using hz
    exact ⟨_, _, _, zs, hcs, .inr ⟨_, rfl, hl, hm, hz', hcell, hwz⟩, .inr ⟨_, _, by rw [hx], by simp [lits]; omega⟩⟩

set_option maxRecDepth 100000 in
theorem open_asks {H : Type} {enc : TypeId × Value → H} {W : World} {m : Nat} {c : Value} {x : DataW H × List MemPlace} (hf : DataW.trod enc Try.prog W 0 (fun _ => true) true m 30 [c] = some x) : ∃ a len cap, c = .slice a len cap ∧ ∀ i, i < len → ∃ d m, AskAt W a i d m ∧ -9223372036854775808 ≤ m ∧ m < 9223372036854775808 := by
  rcases DataW.trod_slice Try.underlying30 hf with ⟨hcs, _⟩ | ⟨a, len, cap, elems, rest, n, _, hcs, _, _, hl, hm, hlen, hel, _⟩
  · simp at hcs
    exact ⟨none, 0, 0, hcs, fun i hi => absurd hi (by omega)⟩
  · simp at hcs
    refine ⟨some a, len, cap, hcs, fun i hi => ?_⟩
    have hce : Try.prog.cellsOf 37 = 2 := by kernel_rfl
    have h := hel i hi
    rw [hce, List.getElem?_eq_getElem (by omega)] at h
    simp only [Option.bind_eq_some_iff] at h
    obtain ⟨cs, h1, h2⟩ := h
    obtain ⟨_, h3, h4⟩ := World.cells?_some h1
    obtain ⟨c0, c1, rfl⟩ : ∃ c0 c1, cs = [c0, c1] := by
      match cs, h3 with
      | [c0, c1], _ => exact ⟨c0, c1, rfl⟩
    obtain ⟨y0, y1, k, _, _, q0, q1⟩ := trod_struct2 Try.underlying37 h2
    have e0 : Try.prog.cellsOf 3 = 1 := by kernel_rfl
    have e1 : Try.prog.cellsOf 2 = 1 := by kernel_rfl
    have t0 : DataW.trod enc Try.prog W 0 (fun _ => true) true k 3 [c0] = some y0 := by simpa [e0] using q0
    have t1 : DataW.trod enc Try.prog W 0 (fun _ => true) true k 2 [c1] = some y1 := by simpa [e0, e1] using q1
    obtain ⟨d, r0, _, f0⟩ := DataW.trod_int Try.underlying3 t0
    obtain ⟨e, r1, _, f1⟩ := DataW.trod_int Try.underlying2 t1
    simp at r0 r1
    subst r0
    subst r1
    have g0 := h4 0 (by decide)
    have g1 := h4 1 (by decide)
    obtain ⟨b, off, spot⟩ := a
    have hspot : spot = none := by
      have hh := hel 0 (by omega)
      rw [hce, List.getElem?_eq_getElem (by omega)] at hh
      simp only [Option.bind_eq_some_iff] at hh
      obtain ⟨ks, k1, _⟩ := hh
      obtain ⟨_, k3, k4⟩ := World.cells?_some k1
      have k5 := k4 0 (by decide)
      rw [List.getElem?_eq_getElem (by omega)] at k5
      simpa [Addr.add] using World.cell?_spot k5
    subst hspot
    simp only [Addr.add_lit] at g0 g1
    exact ⟨d, e, ⟨b, off, rfl, g0, g1⟩, (i64_of_wf9 f1).1, (i64_of_wf9 f1).2⟩

set_option maxHeartbeats 1600000 in
theorem walk (a0 : Option Addr) (len0 cap0 : Nat) (z0 : List Int) (a1 : Option Addr) (len1 cap1 : Nat) (w : World) (w0 : IsRow .u8 w a0 len0 cap0 z0) (b0 : cap0 ≤ 140737488351232) (w1 : ∀ i, i < len1 → ∃ d m, AskAt w a1 i d m ∧ -9223372036854775808 ≤ m ∧ m < 9223372036854775808) :
    Calls Try.prog 6 #[.slice a0 len0 cap0, .slice a1 len1 cap1] w fun e w' => e = .returned (.bool true) ∧ Below w.heap.size w w' := by
  have hl := (Byts.of_row w0).hcap
  exact reads_walk rd_ok9 a0 a1 len0 cap0 len1 cap1 _ w (Byts.of_row w0) (row_nil9 w0) (by omega) w1

set_option maxRecDepth 100000 in
theorem lifted (os : Os) (started : os.Started) (H : Type) (enc : TypeId × Value → H) :
    ReturnsInHanded {} Try.checked os 6 .any (Rows.codecReadsSpec.pre6 enc Try.prog Try.f6 Rows.codecReadsRow.domain false) (Rows.codecReadsSpec.post enc Try.prog Try.f6 false true false false) := by
  refine returnsInHanded_of_change_sized (C := Try.checked) own started (by kernel_rfl) Try.func6
    (ChangeSpec.witness6 (enc := enc) (C := Try.checked) false ⟨#[], #[.slice none 0 0, .slice none 0 0], []⟩ 8 (by kernel_rfl) (by kernel_rfl) (by kernel_rfl) (by kernel_rfl)) ?_
  intro W base args ds gs before hval0 hW hcnd hsz0 _
  have hval : ∀ (j : Nat) t v, Try.f6.params[j]? = some t → args[j]? = some v → Value.okWide Try.prog W .any base t v := hval0
  have hW' := hW
  obtain ⟨p, q, hA0, hV, rfl, hfz, hnd⟩ := hW
  have hA : DataW.TrodAll enc Try.prog W 0 (fun _ => true) true Try.f6.params.toList args.toList ds p := hA0
  have hsz : (DataW.weightsEach Try.prog (Try.f6.params.toList ++ Rows.codecReadsSpec.plain.varTypes Try.prog) (ds ++ gs)).all (· ≤ reachBytes) = true := hsz0
  rw [Try.params6] at hA hval hsz
  obtain ⟨v0, vs0, d0, ds0, p0, q0, hargs, rfl, rfl, h0, r0⟩ := trodAll_cons hA
  obtain ⟨v1, vs1, d1, ds1, p1, q1, rfl, rfl, rfl, h1, r1⟩ := trodAll_cons r0
  obtain ⟨rfl, rfl, rfl⟩ := trodAll_nil r1
  obtain rfl : args = #[v0, v1] := by cases args; simp_all
  obtain ⟨rfl, rfl⟩ := trodVars_none hV
  obtain ⟨a0, len0, cap0, rfl⟩ := okWide_slice Try.underlying23 (hval 0 23 v0 rfl rfl)
  have k0 := h0
  have lt0 : ∀ x ∈ p0, x.block < W.heap.size := by obtain ⟨m, hm⟩ := k0; exact DataW.trod_lt m _ _ _ hm
  obtain ⟨z0, w0, b0⟩ : ∃ zs, IsRow .u8 W a0 len0 cap0 zs ∧ cap0 ≤ 140737488351232 := by
    obtain ⟨fuel, hf⟩ := h0
    obtain ⟨a, l, c, zs, e, hz, hs⟩ := open_oneW hf
    simp at e
    obtain ⟨rfl, rfl, rfl⟩ := e
    refine ⟨zs, hz, ?_⟩
    rcases hs with hc | ⟨es, sp, hd, hc⟩
    · omega
    · have hb := sized_slice hsz (j := 0) (t := 23) (e := 5) (elems := es) (spare := sp) rfl (by rw [← hd]; rfl) Try.underlying23
      rw [show Try.prog.bytesOf 5 = 1 by kernel_rfl] at hb
      unfold reachBytes at hb
      omega
  obtain ⟨a1, len1, cap1, rfl⟩ := okWide_slice Try.underlying30 (hval 1 30 v1 rfl rfl)
  have k1 := h1
  have lt1 : ∀ x ∈ p1, x.block < W.heap.size := by obtain ⟨m, hm⟩ := k1; exact DataW.trod_lt m _ _ _ hm
  have w1 : ∀ i, i < len1 → ∃ d m, AskAt W a1 i d m ∧ -9223372036854775808 ≤ m ∧ m < 9223372036854775808 := by
    obtain ⟨fuel, hf⟩ := h1
    obtain ⟨a, l, c, e, hz⟩ := open_asks hf
    simp at e
    obtain ⟨rfl, rfl, rfl⟩ := e
    exact hz
  clear hA0 hval0
  refine (walk a0 len0 cap0 z0 a1 len1 cap1 W w0 b0 w1).mono fun e W' ⟨he, bel⟩ => ?_
  subst he
  exact ⟨_, rfl, _, _, _, [], _, [], hW', trodAll_mk1 (shut_bool Try.underlying4 _), (trodAll_cons_mk (Below.trod laidOut (by kernel_rfl) (of_decide_eq_true (by kernel_rfl)) k0 bel lt0) (trodAll_cons_mk (Below.trod laidOut (by kernel_rfl) (of_decide_eq_true (by kernel_rfl)) k1 bel lt1) trodAll_mk0)), rfl, bel.frame _, fun h => by cases h⟩

theorem over : Rows.codecReadsRow.holds Try.pinned (OpenSpec.ofChange Rows.codecReadsSpec) :=
  OpenClaim.holds_of_wide 6 Try.f6 rfl rfl rfl rfl rfl rfl rfl ⟨rfl, rfl, rfl, rfl, rfl⟩ rfl rfl rfl rfl rfl (by kernel_rfl) Try.func6 (by kernel_rfl)
    (of_decide_eq_true (by kernel_rfl)) (by unfold Func.isWrapper; first | (rw [if_pos (by decide +kernel)]; kernel_rfl) | (rw [if_neg (by decide +kernel)]; exact ⟨rfl, rfl⟩))
    (fun os started H enc _ => lifted os started H enc)

theorem proved : Rows.CodecReadsSaid := over
end Go.Proofs.Ytfnhaenoaneoeaa.codecReads
namespace Go.Proofs.Ytfnhaenoaneoeaa
theorem codecReads_holds : Rows.CodecReadsSaid := codecReads.proved
#print axioms codecReads_holds
end Go.Proofs.Ytfnhaenoaneoeaa

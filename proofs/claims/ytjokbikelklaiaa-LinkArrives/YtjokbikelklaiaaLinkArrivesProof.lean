/-
  The statement LinkArrives holds of the code at the commit that is named beside it, for every input.
-/
import Derived.Test.YtjokbikelklaiaaRows
import Derived.Test.YtjokbikelklaiaaP11Arrive2
import Derived.Test.YtjokbikelklaiaaX11O
import Derived.Lib.SmallJoins
import Derived.WalkKit
import Derived.ProofKit
import Derived.OpenShut
import Derived.ShutString
import Derived.ChangeOld
import Derived.Below
import Derived.Deep.Cut
import Derived.Deep.DeepCutAuto
import Derived.Deep.RegionWith
import Derived.BigRegion
import Derived.SizedLaws
namespace Go.Proofs.Ytjokbikelklaiaa.linkArrives
open Go.ChangeShapes Go.WideShapes Go.ChangeAt Go.RowKit
open Go.ChangeMaps (open_string shut_string)
set_option linter.unusedVariables false

theorem own : ownKnob Try.prog.godebug = none := by kernel_rfl
theorem laidOut : laidOutB Try.prog = true := by kernel_rfl

theorem open_oneW {H : Type} {enc : TypeId × Value → H} {W : World} {m : Nat} {c : Value} {x : DataW H × List MemPlace} (hf : DataW.trod enc Try.prog W 0 (fun _ => true) true m 31 [c] = some x) : ∃ a len cap zs, c = .slice a len cap ∧ IsRow .u8 W a len cap zs ∧ (cap = 0 ∨ ∃ es sp, x.1 = .slice es sp ∧ es.length + sp.length = cap) := by
  rcases open_ints Try.underlying31 Try.underlying5 (by kernel_rfl) hf with ⟨hcs, _⟩ | ⟨x, l, c, zs, hcs, _, hl, hm, hz, hx, hcell, hwz⟩
  · simp at hcs
    exact ⟨none, 0, 0, [], hcs, .inl ⟨rfl, rfl, rfl, rfl⟩, .inl rfl⟩
  · simp at hcs
    have hz' : zs.length = c := by simpa using hz
    exact ⟨_, _, _, zs, hcs, .inr ⟨_, rfl, hl, hm, hz', hcell, hwz⟩, .inr ⟨_, _, by rw [hx], by simp [lits]; omega⟩⟩

theorem weights_all {H : Type} {P : Program} {e : TypeId} {d : DataW H} {n : Nat} (hn : n ∈ d.weights P e) : ∀ {l : List (DataW H)}, d ∈ l → n ∈ DataW.weightsAll P e l
  | [], h => by cases h
  | x :: l, h => by
    unfold DataW.weightsAll
    rcases List.mem_cons.1 h with rfl | h
    · exact List.mem_append.2 (.inl hn)
    · exact List.mem_append.2 (.inr (weights_all hn h))
set_option maxRecDepth 100000 in
theorem open_steps {H : Type} {enc : TypeId × Value → H} {W : World} {m : Nat} {c : Value} {x : DataW H × List MemPlace} (hf : DataW.trod enc Try.prog W 0 (fun _ => true) true m 30 [c] = some x) (hw : ∀ n, n ∈ x.1.weights Try.prog 30 → n ≤ reachBytes) : ∃ a len cap, c = .slice a len cap ∧ Steps11 W a len := by
  rcases DataW.trod_slice Try.underlying30 hf with ⟨hcs, _⟩ | ⟨a, len, cap, elems, rest, n, _, hcs, hxe, _, hl, hm, hlen, hel, _⟩
  · simp at hcs
    exact ⟨none, 0, 0, hcs, fun i hi => absurd hi (by omega)⟩
  · simp at hcs
    refine ⟨some a, len, cap, hcs, fun i hi => ?_⟩
    have hce : Try.prog.cellsOf 33 = 4 := by kernel_rfl
    have h := hel i hi
    rw [hce, List.getElem?_eq_getElem (by omega)] at h
    simp only [Option.bind_eq_some_iff] at h
    obtain ⟨cs, h1, h2⟩ := h
    obtain ⟨_, h3, h4⟩ := World.cells?_some h1
    obtain ⟨c0, c1, c2, c3, rfl⟩ : ∃ c0 c1 c2 c3, cs = [c0, c1, c2, c3] := by
      match cs, h3 with
      | [c0, c1, c2, c3], _ => exact ⟨c0, c1, c2, c3, rfl⟩
    obtain ⟨xs, k, _, hxa, _, hx, hy⟩ := DataW.trod_struct Try.underlying33 h2
    have e0 : Try.prog.cellsOf 3 = 1 := by kernel_rfl
    have e1 : Try.prog.cellsOf 31 = 1 := by kernel_rfl
    have hx4 : xs.length = 4 := hx
    have q0 : DataW.trod enc Try.prog W 0 (fun _ => true) true k 3 (([c0, c1, c2, c3].drop 0).take (Try.prog.cellsOf 3)) = xs[0]? := hy 0 _ rfl
    have q1 : DataW.trod enc Try.prog W 0 (fun _ => true) true k 3 (([c0, c1, c2, c3].drop 1).take (Try.prog.cellsOf 3)) = xs[1]? := hy 1 _ rfl
    have q2 : DataW.trod enc Try.prog W 0 (fun _ => true) true k 3 (([c0, c1, c2, c3].drop 2).take (Try.prog.cellsOf 3)) = xs[2]? := hy 2 _ rfl
    have q3 : DataW.trod enc Try.prog W 0 (fun _ => true) true k 31 (([c0, c1, c2, c3].drop 3).take (Try.prog.cellsOf 31)) = xs[3]? := hy 3 _ rfl
    rw [e0] at q0 q1 q2
    rw [e1] at q3
    rw [List.getElem?_eq_getElem (by omega)] at q0 q1 q2 q3
    obtain ⟨d, r0, _, f0⟩ := DataW.trod_int Try.underlying3 q0
    obtain ⟨t, r1, _, f1⟩ := DataW.trod_int Try.underlying3 q1
    obtain ⟨e, r2, _, f2⟩ := DataW.trod_int Try.underlying3 q2
    obtain ⟨sa, sl, sc, zs, r3, hz, hs⟩ := open_oneW (c := c3) (by simpa using q3)
    simp at r0 r1 r2
    subst r0
    subst r1
    subst r2
    subst r3
    have g0 := h4 0 (by decide)
    have g1 := h4 1 (by decide)
    have g2 := h4 2 (by decide)
    have g3 := h4 3 (by decide)
    have hB := Byts.of_row hz
    have hsc : sc ≤ 140737488351232 := by
      rcases hs with hc | ⟨es, sp, hd, hc⟩
      · omega
      · have m1 : (es.length + sp.length) * Try.prog.bytesOf 5 ∈ (xs[3].1).weights Try.prog 31 := by
          rw [hd]
          unfold DataW.weights
          rw [Try.underlying31]
          simp
        have m2 : (es.length + sp.length) * Try.prog.bytesOf 5 ∈ (elems[i].1).weights Try.prog 33 := by
          rw [hxa]
          unfold DataW.weights
          rw [Try.underlying33]
          exact DataW.weights_mem_each (j := 3) rfl (by simp [hx4]) _ m1
        have m3 : (es.length + sp.length) * Try.prog.bytesOf 5 ∈ x.1.weights Try.prog 30 := by
          rw [hxe]
          unfold DataW.weights
          rw [Try.underlying30]
          exact List.mem_cons.2 (.inr (List.mem_append.2 (.inl (weights_all m2 (List.mem_map.2 ⟨elems[i], List.getElem_mem _, rfl⟩)))))
        have := hw _ m3
        rw [show Try.prog.bytesOf 5 = 1 by kernel_rfl] at this
        unfold reachBytes at this
        omega
    have hcap := hB.hcap
    obtain ⟨b, off, spot⟩ := a
    have hspot : spot = none := by
      have hh := hel 0 (by omega)
      rw [hce, List.getElem?_eq_getElem (by omega)] at hh
      simp only [Option.bind_eq_some_iff] at hh
      obtain ⟨ks, k1, _⟩ := hh
      obtain ⟨_, k3, k4⟩ := World.cells?_some k1
      have k5 := k4 0 (by decide)
      rw [List.getElem?_eq_getElem (by omega)] at k5
      simpa [Addr.add] using World.cell?_spot k5
    subst hspot
    simp only [Addr.add_lit] at g0 g1 g2 g3
    exact ⟨d, t, e, sa, sl, sc, _, ⟨b, off, rfl, g0, g1, g2, g3⟩, hB, row_nil9 hz, by omega⟩

set_option maxHeartbeats 1600000 in
theorem walk (x0 : Int) (a0 : Option Addr) (len0 cap0 : Nat) (w : World) (h0 : (Lit.int .i64 x0).wf = true) (w0 : Steps11 w a0 len0) :
    Calls Try.prog 6 #[.int .i64 x0, .slice a0 len0 cap0] w fun e w' => e = .returned (.bool true) ∧ Below w.heap.size w w' := by
  exact arrives11_walk end_ok11 x0 a0 len0 cap0 w (i64_of_wf9 h0) w0

set_option maxRecDepth 100000 in
theorem lifted (os : Os) (started : os.Started) (H : Type) (enc : TypeId × Value → H) :
    ReturnsInHanded {} Try.checked os 6 .any (Rows.linkArrivesSpec.pre6 enc Try.prog Try.f6 Rows.linkArrivesRow.domain false) (Rows.linkArrivesSpec.post enc Try.prog Try.f6 false true false false) := by
  refine returnsInHanded_of_change_sized (C := Try.checked) own started (by kernel_rfl) Try.func6
    (ChangeSpec.witness6 (enc := enc) (C := Try.checked) false ⟨#[], #[.int .i64 0, .slice none 0 0], []⟩ 8 (by kernel_rfl) (by kernel_rfl) (by kernel_rfl) (by kernel_rfl)) ?_
  intro W base args ds gs before hval0 hW hcnd hsz0 _
  have hval : ∀ (j : Nat) t v, Try.f6.params[j]? = some t → args[j]? = some v → Value.okWide Try.prog W .any base t v := hval0
  have hW' := hW
  obtain ⟨p, q, hA0, hV, rfl, hfz, hnd⟩ := hW
  have hA : DataW.TrodAll enc Try.prog W 0 (fun _ => true) true Try.f6.params.toList args.toList ds p := hA0
  have hsz : (DataW.weightsEach Try.prog (Try.f6.params.toList ++ Rows.linkArrivesSpec.plain.varTypes Try.prog) (ds ++ gs)).all (· ≤ reachBytes) = true := hsz0
  rw [Try.params6] at hA hval hsz
  obtain ⟨v0, vs0, d0, ds0, p0, q0, hargs, rfl, rfl, h0, r0⟩ := trodAll_cons hA
  obtain ⟨v1, vs1, d1, ds1, p1, q1, rfl, rfl, rfl, h1, r1⟩ := trodAll_cons r0
  obtain ⟨rfl, rfl, rfl⟩ := trodAll_nil r1
  obtain rfl : args = #[v0, v1] := by cases args; simp_all
  obtain ⟨rfl, rfl⟩ := trodVars_none hV
  have k0 := h0
  have lt0 : ∀ x ∈ p0, x.block < W.heap.size := by obtain ⟨m, hm⟩ := k0; exact DataW.trod_lt m _ _ _ hm
  obtain ⟨x0, hv0, -, -, i0⟩ := open_int Try.underlying3 (hval 0 3 v0 rfl rfl) h0
  subst hv0
  obtain ⟨a0, len0, cap0, rfl⟩ := okWide_slice Try.underlying30 (hval 1 30 v1 rfl rfl)
  have k1 := h1
  have lt1 : ∀ x ∈ p1, x.block < W.heap.size := by obtain ⟨m, hm⟩ := k1; exact DataW.trod_lt m _ _ _ hm
  have w0 : Steps11 W a0 len0 := by
    obtain ⟨fuel, hf⟩ := h1
    obtain ⟨a, l, c, e, hz⟩ := open_steps hf (fun n hn => by
      have := List.all_eq_true.1 hsz n (DataW.weights_mem_each (j := 1) rfl rfl n hn)
      simpa using this)
    simp at e
    obtain ⟨rfl, rfl, rfl⟩ := e
    exact hz
  clear hA0 hval0
  refine (walk x0 a0 len0 cap0 W i0 w0).mono fun e W' ⟨he, bel⟩ => ?_
  subst he
  exact ⟨_, rfl, _, _, _, [], _, [], hW', trodAll_mk1 (shut_bool Try.underlying4 _), (trodAll_cons_mk (Below.trod laidOut (by kernel_rfl) (of_decide_eq_true (by kernel_rfl)) k0 bel lt0) (trodAll_cons_mk (Below.trod laidOut (by kernel_rfl) (of_decide_eq_true (by kernel_rfl)) k1 bel lt1) trodAll_mk0)), rfl, bel.frame _, fun h => by cases h⟩

theorem over : Rows.linkArrivesRow.holds Try.pinned (OpenSpec.ofChange Rows.linkArrivesSpec) :=
  OpenClaim.holds_of_wide 6 Try.f6 rfl rfl rfl rfl rfl rfl rfl ⟨rfl, rfl, rfl, rfl, rfl⟩ rfl rfl rfl rfl rfl (by kernel_rfl) Try.func6 (by kernel_rfl)
    (of_decide_eq_true (by kernel_rfl)) (by unfold Func.isWrapper; first | (rw [if_pos (by decide +kernel)]; kernel_rfl) | (rw [if_neg (by decide +kernel)]; exact ⟨rfl, rfl⟩))
    (fun os started H enc _ => lifted os started H enc)

theorem proved : Rows.LinkArrivesSaid := over
end Go.Proofs.Ytjokbikelklaiaa.linkArrives
namespace Go.Proofs.Ytjokbikelklaiaa
theorem linkArrives_holds : Rows.LinkArrivesSaid := linkArrives.proved
#print axioms linkArrives_holds
end Go.Proofs.Ytjokbikelklaiaa

/-
  The statement TapeDraws holds of the code at the commit that is named beside it, for every input.
-/
import Derived.Test.YtfafbggijhghcaaRows
import Derived.Test.YtfafbggijhghcaaTapeF
import Derived.Test.YtfafbggijhghcaaTapeH
import Derived.Lib.SmallJoins
import Derived.WalkKit
import Derived.ProofKit
import Derived.OpenShut
import Derived.ShutString
import Derived.ChangeOld
import Derived.Below
import Derived.Deep.Cut
import Derived.Deep.DeepCutAuto
import Derived.Deep.RegionWith
import Derived.BigRegion
namespace Go.Proofs.Ytfafbggijhghcaa.tapeDraws
open Go.ChangeShapes Go.WideShapes Go.ChangeAt Go.RowKit
open Go.ChangeMaps (open_string shut_string)
set_option linter.unusedVariables false

theorem own : ownKnob Try.prog.godebug = none := by kernel_rfl
theorem laidOut : laidOutB Try.prog = true := by kernel_rfl

theorem open_one {H : Type} {enc : TypeId × Value → H} {W : World} {m : Nat} {c : Value} {x : DataW H × List MemPlace} (hf : DataW.trod enc Try.prog W 0 (fun _ => true) true m 41 [c] = some x) : ∃ a len cap zs, c = .slice a len cap ∧ IsRow .u64 W a len cap zs := by
  rcases open_ints Try.underlying41 Try.underlying57 (by kernel_rfl) hf with ⟨hcs, _⟩ | ⟨x, l, c, zs, hcs, _, hl, hm, hz, _, hcell, hwz⟩
  · simp at hcs
    exact ⟨none, 0, 0, [], hcs, .inl ⟨rfl, rfl, rfl, rfl⟩⟩
  · simp at hcs
    exact ⟨_, _, _, zs, hcs, .inr ⟨_, rfl, hl, hm, by simpa using hz, hcell, hwz⟩⟩

theorem open_oneB {H : Type} {enc : TypeId × Value → H} {W : World} {m : Nat} {c : Value} {x : DataW H × List MemPlace} (hf : DataW.trod enc Try.prog W 0 (fun _ => true) true m 22 [c] = some x) : ∃ a len cap zs, c = .slice a len cap ∧ IsRow .u8 W a len cap zs := by
  rcases open_ints Try.underlying22 Try.underlying5 (by kernel_rfl) hf with ⟨hcs, _⟩ | ⟨x, l, c, zs, hcs, _, hl, hm, hz, _, hcell, hwz⟩
  · simp at hcs
    exact ⟨none, 0, 0, [], hcs, .inl ⟨rfl, rfl, rfl, rfl⟩⟩
  · simp at hcs
    exact ⟨_, _, _, zs, hcs, .inr ⟨_, rfl, hl, hm, by simpa using hz, hcell, hwz⟩⟩

/-- The slice (a, len, cap) of draws lies in memory: each with its two whole numbers and its limbs. -/
def IsDraws (w : World) (a : Option Addr) (len cap : Nat) : Prop := len ≤ cap ∧ cap ≤ maxLen ∧ ∀ i, i < len → ∃ b off d n sa sl sc zs, a = some ⟨b, off, none⟩ ∧ w.cell? ⟨b, off + i * 3, none⟩ = some (.int .i64 d) ∧ w.cell? ⟨b, off + i * 3 + 1, none⟩ = some (.int .i64 n) ∧ w.cell? ⟨b, off + i * 3 + 2, none⟩ = some (.slice sa sl sc) ∧ (Lit.int .i64 d).wf = true ∧ (Lit.int .i64 n).wf = true ∧ IsRow .u64 w sa sl sc zs

set_option maxRecDepth 100000 in
theorem open_draws {H : Type} {enc : TypeId × Value → H} {W : World} {m : Nat} {c : Value} {x : DataW H × List MemPlace} (hf : DataW.trod enc Try.prog W 0 (fun _ => true) true m 39 [c] = some x) : ∃ a len cap, c = .slice a len cap ∧ IsDraws W a len cap := by
  rcases DataW.trod_slice Try.underlying39 hf with ⟨hcs, _⟩ | ⟨a, len, cap, elems, rest, n, _, hcs, _, _, hl, hm, hlen, hel, _⟩
  · simp at hcs
    exact ⟨none, 0, 0, hcs, Nat.le_refl _, Nat.zero_le _, fun i hi => absurd hi (by omega)⟩
  · simp at hcs
    refine ⟨some a, len, cap, hcs, hl, hm, fun i hi => ?_⟩
    have hce : Try.prog.cellsOf 43 = 3 := by kernel_rfl
    have h := hel i hi
    rw [hce, List.getElem?_eq_getElem (by omega)] at h
    simp only [Option.bind_eq_some_iff] at h
    obtain ⟨cs, h1, h2⟩ := h
    obtain ⟨_, h3, h4⟩ := World.cells?_some h1
    obtain ⟨c0, c1, c2, rfl⟩ : ∃ c0 c1 c2, cs = [c0, c1, c2] := by
      match cs, h3 with
      | [c0, c1, c2], _ => exact ⟨c0, c1, c2, rfl⟩
    obtain ⟨xs, k, _, _, _, hx, hy⟩ := DataW.trod_struct Try.underlying43 h2
    have e0 : Try.prog.cellsOf 3 = 1 := by kernel_rfl
    have e1 : Try.prog.cellsOf 41 = 1 := by kernel_rfl
    have hx3 : xs.length = 3 := hx
    have q0 : DataW.trod enc Try.prog W 0 (fun _ => true) true k 3 (([c0, c1, c2].drop 0).take (Try.prog.cellsOf 3)) = xs[0]? := hy 0 _ rfl
    have q1 : DataW.trod enc Try.prog W 0 (fun _ => true) true k 3 (([c0, c1, c2].drop 1).take (Try.prog.cellsOf 3)) = xs[1]? := hy 1 _ rfl
    have q2 : DataW.trod enc Try.prog W 0 (fun _ => true) true k 41 (([c0, c1, c2].drop 2).take (Try.prog.cellsOf 41)) = xs[2]? := hy 2 _ rfl
    rw [e0] at q0 q1
    rw [e1] at q2
    rw [List.getElem?_eq_getElem (by omega)] at q0 q1 q2
    obtain ⟨d, r0, _, f0⟩ := DataW.trod_int Try.underlying3 q0
    obtain ⟨e, r1, _, f1⟩ := DataW.trod_int Try.underlying3 q1
    obtain ⟨sa, sl, sc, zs, r2, hz⟩ := open_one (c := c2) (by simpa using q2)
    simp at r0 r1
    subst r0
    subst r1
    subst r2
    have g0 := h4 0 (by decide)
    have g1 := h4 1 (by decide)
    have g2 := h4 2 (by decide)
    obtain ⟨b, off, spot⟩ := a
    have hspot : spot = none := by
      have hh := hel 0 (by omega)
      rw [hce, List.getElem?_eq_getElem (by omega)] at hh
      simp only [Option.bind_eq_some_iff] at hh
      obtain ⟨ks, k1, _⟩ := hh
      obtain ⟨_, k3, k4⟩ := World.cells?_some k1
      have k5 := k4 0 (by decide)
      rw [List.getElem?_eq_getElem (by omega)] at k5
      simpa [Addr.add] using World.cell?_spot k5
    subst hspot
    simp only [Addr.add_lit] at g0 g1 g2
    exact ⟨b, off, d, e, sa, sl, sc, zs, rfl, g0, g1, g2, f0, f1, hz⟩

theorem grown_cell {w w' : World} {g : Nat} {p : Addr} {v : Value} (h : w.cell? p = some v) (hg : w.grownBy w' (some g)) (hne : p.block ≠ g) : w'.cell? p = some v := by
  rw [← h]
  exact World.cell?_of_block (w := w) (hg.block p.block (World.block_lt_of_cell? w _ h) (fun e => hne (by simpa using e)))
set_option maxRecDepth 20000 in
set_option maxHeartbeats 6400000 in
theorem walk (a0 : Option Addr) (len0 cap0 : Nat) (z0 : List Int) (a1 : Option Addr) (len1 cap1 : Nat) (w : World) (w0 : IsRow .u8 w a0 len0 cap0 z0) (w1 : IsDraws w a1 len1 cap1) :
    Calls Try.prog 8 #[.slice a0 len0 cap0, .slice a1 len1 cap1] w fun e w' => e = .returned (.bool true) ∧ Below w.heap.size w w' := by
  have H0 := Byts.of_row w0
  have hnil := row_nil w0
  generalize z0.take len0 = bs at H0
  obtain ⟨hlc, hcm, hd⟩ := w1
  unfold maxLen at hcm
  have HD : Hid (∀ i, i < len1 → ∃ b off d n sa sl sc zs, a1 = some ⟨b, off, none⟩ ∧ b < w.heap.size ∧ w.cell? ⟨b, off + i * 3, none⟩ = some (.int .i64 d) ∧ w.cell? ⟨b, off + i * 3 + 1, none⟩ = some (.int .i64 n) ∧ w.cell? ⟨b, off + i * 3 + 2, none⟩ = some (.slice sa sl sc) ∧ n < 9223372036854775808 ∧ Nums w sa sl sc zs) := by
    intro i hi
    obtain ⟨b, off, d, n, sa, sl, sc, zs, e, c0, c1, c2, f0, f1, hz⟩ := hd i hi
    exact ⟨b, off, d, n, sa, sl, sc, _, e, World.block_lt_of_cell? w _ c0, c0, c1, c2, (int_of_wf f1).2, Nums.of_row hz⟩
  clear w0 hd
  go_enter Try.func8, Try.ntmps8
  go_wp2_with fail
  refine (fresh_any _ _ _ _ _ H0 hnil).mono ?_
  rintro e w1 ⟨hb1, ⟨hl, rfl⟩ | ⟨hl, g, k, rfl, hT, hR, hg, hk⟩⟩
  · go_wp2
    go_ret
    exact ⟨rfl, hb1⟩
  · go_wp2
    go_loopw [8] (fun iv wr => ∃ i : Nat, i ≤ len1 ∧ i ≤ 60 ∧ iv = .int .i64 i ∧ ∃ L, TapeAt wr g L ∧ RTapeAt wr k L ∧ Below w.heap.size w wr) (fun iv _ => 60 - (intOf iv).toNat)
    case atStart => exact ⟨0, Nat.zero_le _, by omega, rfl, bs, hT, hR, hb1⟩
    case round =>
      clear hT hR hb1 H0
      obtain ⟨i, hi, hi6, rfl, L, hT, hR, hbr⟩ := hrel
      by_cases hlt : i < len1
      · have hlti : (i : Int) < (len1 : Int) := by omega
        by_cases hlt6 : i < 60
        · have hlt6i : (i : Int) < 60 := by omega
          obtain ⟨b, off, d, n, sa, sl, sc, zs, rfl, hbw, c0, c1, c2, hn, hz⟩ := HD.out i hlt
          have hne := hT.other hR
          have keep : ∀ wx : World, Below w.heap.size w wx → wx.cell? ⟨b, off + i * 3, none⟩ = some (.int .i64 d) ∧ wx.cell? ⟨b, off + i * 3 + 1, none⟩ = some (.int .i64 n) ∧ wx.cell? ⟨b, off + i * 3 + 2, none⟩ = some (.slice sa sl sc) ∧ Nums wx sa sl sc zs := fun wx hb =>
            ⟨(hb.cell (p := ⟨b, off + i * 3, none⟩) hbw).trans c0, (hb.cell (p := ⟨b, off + i * 3 + 1, none⟩) hbw).trans c1, (hb.cell (p := ⟨b, off + i * 3 + 2, none⟩) hbw).trans c2, hz.below hb⟩
          have HK : Hid (∀ wx : World, Below w.heap.size w wx → wx.cell? ⟨b, off + i * 3, none⟩ = some (.int .i64 d) ∧ wx.cell? ⟨b, off + i * 3 + 1, none⟩ = some (.int .i64 n) ∧ wx.cell? ⟨b, off + i * 3 + 2, none⟩ = some (.slice sa sl sc) ∧ Nums wx sa sl sc zs) := keep
          obtain ⟨q0, q1, q2, q3⟩ := keep wr hbr
          have hsm := q3.hmax
          have hsc := q3.hcap
          unfold maxLen at hsm
          clear keep c0 c1 c2 hz
          by_cases h70 : sl ≤ 70
          · have d70 : decide ((70 : Int) < (sl : Int)) = false := decide_eq_false (by omega)
            obtain ⟨m, hm⟩ : ∃ m, m = bits .and .i64 d 1 := ⟨_, rfl⟩
            have hm' : bits BinOp.and IntKind.i64 d 1 = m := hm.symm
            clear hm
            by_cases hm0 : m = 0
            · subst hm0
              have hh := hT.head
              go_wp2_with fail
              refine (tbelow_any sa sl sc zs g L _ q3 hT).mono ?_
              rintro e w2 ⟨xa, xn, xc, xs, xe, R, rfl, hx, hxr, hT2, hg2⟩
              have hR2 := hR.apart hg2 hh (Ne.symm hne)
              have hb2 : Below w.heap.size w w2 := hbr.grown hg2 hbr.size (fun q hq => by cases hq; exact hg)
              obtain ⟨p0, p1, p2, p3⟩ := HK.out w2 hb2
              have HX : Hid (ResBelow zs L xs xe R) := hxr
              clear hxr hT hR hbr hg2 hh q0 q1 q2 q3
              have hh2 := hR2.head
              go_wp2_with fail
              refine (rbelow_any sa sl sc zs k L _ p3 hR2).mono ?_
              rintro e w3 ⟨ya, yn, yc, ys, ye, S, rfl, hy, hyr, hR3, hg3⟩
              obtain ⟨e1, e2, e3⟩ := HX.out.unique hyr
              subst e1
              subst e2
              subst e3
              have hT3 := hT2.apart hg3 hh2 hne
              have hx3 := hx.head hg3 hh2
              have hb3 : Below w.heap.size w w3 := hb2.grown hg3 hb2.size (fun q hq => by cases hq; exact hk)
              clear hyr HX hT2 hR2 hb2 hg3 hh2 p0 p1 p2 p3 hx
              go_wp2_with fail
              refine (same_any _ _ _ _ _ _ _ _ _ hx3 hy).mono ?_
              rintro e w4 ⟨rfl, hb4⟩
              rw [sameB_self]
              have hT4 := hT3.below hb4
              have hR4 := hR3.below hb4
              have hB4 := hb3.trans (hb4.mono hb3.size)
              clear hT3 hR3 hb3 hb4 hx3 hy
              go_wp2_with fail
              refine (left_any _ _ _ hT4).mono ?_
              rintro e w5 ⟨rfl, rfl⟩
              go_wp2_with fail
              refine (rleft_any _ _ _ hR4).mono ?_
              rintro e w6 ⟨rfl, hb6⟩
              have hT6 := hT4.below hb6
              have hR6 := hR4.below hb6
              have hB6 := hB4.trans (hb6.mono hB4.size)
              clear hT4 hR4 hB4 hb6
              go_wp2
              go_roundw
              case rel => exact ⟨i + 1, by omega, by omega, by go_num, R, hT6, hR6, hB6⟩
              case measure => simp [intOf]; omega
            · have hmn : (m == 0) = false := by simp [hm0]
              have hh := hT.head
              go_wp2_with fail
              refine (tsmall_any n g L _ hn hT).mono ?_
              rintro e w2 ⟨xv, xe, R, rfl, hxr, hT2, hg2⟩
              have hR2 := hR.apart hg2 hh (Ne.symm hne)
              have hb2 : Below w.heap.size w w2 := hbr.grown hg2 hbr.size (fun q hq => by cases hq; exact hg)
              obtain ⟨p0, p1, p2, p3⟩ := HK.out w2 hb2
              have HX : Hid (ResSmall n L xv xe R) := hxr
              clear hxr hT hR hbr hg2 hh q0 q1 q2 q3
              have hh2 := hR2.head
              go_wp2_with fail
              refine (rsmall_any n k L _ hn hR2).mono ?_
              rintro e w3 ⟨yv, ye, S, rfl, hyr, hR3, hg3⟩
              obtain ⟨e1, e2, e3⟩ := HX.out.unique hyr
              subst e1
              subst e2
              subst e3
              have hT4 := hT2.apart hg3 hh2 hne
              have hB4 : Below w.heap.size w w3 := hb2.grown hg3 hb2.size (fun q hq => by cases hq; exact hk)
              clear hyr HX hT2 hR2 hb2 hg3 hh2 p0 p1 p2 p3
              go_wp2_with fail
              refine (left_any _ _ _ hT4).mono ?_
              rintro e w5 ⟨rfl, rfl⟩
              go_wp2_with fail
              refine (rleft_any _ _ _ hR3).mono ?_
              rintro e w6 ⟨rfl, hb6⟩
              have hT6 := hT4.below hb6
              have hR6 := hR3.below hb6
              have hB6 := hB4.trans (hb6.mono hB4.size)
              clear hT4 hR3 hB4 hb6
              go_wp2
              go_roundw
              case rel => exact ⟨i + 1, by omega, by omega, by go_num, R, hT6, hR6, hB6⟩
              case measure => simp [intOf]; omega
          · have d70 : (70 : Int) < (sl : Int) := by omega
            go_wp2
            go_ret
            exact ⟨rfl, hbr⟩
        · have hd : decide ((i : Int) < 60) = false := by simp; omega
          go_wp2
          go_ret
          exact ⟨rfl, hbr⟩
      · have hd : decide ((i : Int) < (len1 : Int)) = false := by simp; omega
        go_wp2
        go_ret
        exact ⟨rfl, hbr⟩

set_option maxRecDepth 100000 in
theorem lifted (os : Os) (started : os.Started) (H : Type) (enc : TypeId × Value → H) :
    ReturnsInHanded {} Try.checked os 8 .any (Rows.tapeDrawsSpec.pre6 enc Try.prog Try.f8 Rows.tapeDrawsRow.domain false) (Rows.tapeDrawsSpec.post enc Try.prog Try.f8 false true false false) := by
  refine returnsInHanded_of_change (C := Try.checked) own started (by kernel_rfl) Try.func8
    (ChangeSpec.witness6 (enc := enc) (C := Try.checked) false ⟨#[], #[.slice none 0 0, .slice none 0 0], []⟩ 8 (by kernel_rfl) (by kernel_rfl) (by kernel_rfl) (by kernel_rfl)) ?_
  intro W base args ds gs before hval0 hW hcnd _
  have hval : ∀ (j : Nat) t v, Try.f8.params[j]? = some t → args[j]? = some v → Value.okWide Try.prog W .any base t v := hval0
  have hW' := hW
  obtain ⟨p, q, hA0, hV, rfl, hfz, hnd⟩ := hW
  have hA : DataW.TrodAll enc Try.prog W 0 (fun _ => true) true Try.f8.params.toList args.toList ds p := hA0
  rw [Try.params8] at hA hval
  obtain ⟨v0, vs0, d0, ds0, p0, q0, hargs, rfl, rfl, h0, r0⟩ := trodAll_cons hA
  obtain ⟨v1, vs1, d1, ds1, p1, q1, rfl, rfl, rfl, h1, r1⟩ := trodAll_cons r0
  obtain ⟨rfl, rfl, rfl⟩ := trodAll_nil r1
  obtain rfl : args = #[v0, v1] := by cases args; simp_all
  obtain ⟨rfl, rfl⟩ := trodVars_none hV
  obtain ⟨a0, len0, cap0, rfl⟩ := okWide_slice Try.underlying22 (hval 0 22 v0 rfl rfl)
  have k0 := h0
  have lt0 : ∀ x ∈ p0, x.block < W.heap.size := by obtain ⟨m, hm⟩ := k0; exact DataW.trod_lt m _ _ _ hm
  obtain ⟨z0, w0⟩ : ∃ zs, IsRow .u8 W a0 len0 cap0 zs := by
    obtain ⟨fuel, hf⟩ := h0
    obtain ⟨a, l, c, zs, e, hz⟩ := open_oneB hf
    simp at e
    obtain ⟨rfl, rfl, rfl⟩ := e
    exact ⟨zs, hz⟩
  obtain ⟨a1, len1, cap1, rfl⟩ := okWide_slice Try.underlying39 (hval 1 39 v1 rfl rfl)
  have k1 := h1
  have lt1 : ∀ x ∈ p1, x.block < W.heap.size := by obtain ⟨m, hm⟩ := k1; exact DataW.trod_lt m _ _ _ hm
  have w1 : IsDraws W a1 len1 cap1 := by
    obtain ⟨fuel, hf⟩ := h1
    obtain ⟨a, l, c, e, hz⟩ := open_draws hf
    simp at e
    obtain ⟨rfl, rfl, rfl⟩ := e
    exact hz
  clear hA0 hval0
  refine (walk a0 len0 cap0 z0 a1 len1 cap1 W w0 w1).mono fun e W' ⟨he, bel⟩ => ?_
  subst he
  exact ⟨_, rfl, _, _, _, [], _, [], hW', trodAll_mk1 (shut_bool Try.underlying4 _), (trodAll_cons_mk (Below.trod laidOut (by kernel_rfl) (of_decide_eq_true (by kernel_rfl)) k0 bel lt0) (trodAll_cons_mk (Below.trod laidOut (by kernel_rfl) (of_decide_eq_true (by kernel_rfl)) k1 bel lt1) trodAll_mk0)), rfl, bel.frame _, fun h => by cases h⟩

theorem over : Rows.tapeDrawsRow.holds Try.pinned (OpenSpec.ofChange Rows.tapeDrawsSpec) :=
  OpenClaim.holds_of_wide 8 Try.f8 rfl rfl rfl rfl rfl rfl rfl ⟨rfl, rfl, rfl, rfl, rfl⟩ rfl rfl rfl rfl rfl (by kernel_rfl) Try.func8 (by kernel_rfl)
    (of_decide_eq_true (by kernel_rfl)) (by unfold Func.isWrapper; first | (rw [if_pos (by decide +kernel)]; kernel_rfl) | (rw [if_neg (by decide +kernel)]; exact ⟨rfl, rfl⟩))
    (fun os started H enc _ => lifted os started H enc)

theorem proved : Rows.TapeDrawsSaid := over
end Go.Proofs.Ytfafbggijhghcaa.tapeDraws
namespace Go.Proofs.Ytfafbggijhghcaa
theorem tapeDraws_holds : Rows.TapeDrawsSaid := tapeDraws.proved
#print axioms tapeDraws_holds
end Go.Proofs.Ytfafbggijhghcaa

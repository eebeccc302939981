/-
  The statement TapeHangs holds of the code at the commit that is named beside it, for every input.
-/
import Derived.Test.YtfafbggijhghcaaRows
import Derived.Test.YtfafbggijhghcaaTapeF
import Derived.Test.YtfafbggijhghcaaTapeG
import Derived.WalkKit
import Derived.ProofKit
import Derived.OpenShut
import Derived.ShutString
import Derived.ChangeOld
import Derived.Below
import Derived.Deep.Cut
import Derived.Deep.DeepCutAuto
import Derived.Deep.RegionWith
import Derived.BigRegion
namespace Go.Proofs.Ytfafbggijhghcaa.tapeHangs
open Go.ChangeShapes Go.WideShapes Go.ChangeAt Go.RowKit
open Go.ChangeMaps (open_string shut_string)
set_option linter.unusedVariables false

theorem own : ownKnob Try.prog.godebug = none := by kernel_rfl
theorem laidOut : laidOutB Try.prog = true := by kernel_rfl

theorem open_oneB {H : Type} {enc : TypeId × Value → H} {W : World} {m : Nat} {c : Value} {x : DataW H × List MemPlace} (hf : DataW.trod enc Try.prog W 0 (fun _ => true) true m 22 [c] = some x) : ∃ a len cap zs, c = .slice a len cap ∧ IsRow .u8 W a len cap zs := by
  rcases open_ints Try.underlying22 Try.underlying5 (by kernel_rfl) hf with ⟨hcs, _⟩ | ⟨x, l, c, zs, hcs, _, hl, hm, hz, _, hcell, hwz⟩
  · simp at hcs
    exact ⟨none, 0, 0, [], hcs, .inl ⟨rfl, rfl, rfl, rfl⟩⟩
  · simp at hcs
    exact ⟨_, _, _, zs, hcs, .inr ⟨_, rfl, hl, hm, by simpa using hz, hcell, hwz⟩⟩

theorem small_left {n : Int} {L : List Int} {v err : Int} {R : List Int} (h : ResSmall n L v err R) (h2 : n < 9223372036854775808) : R.length ≤ L.length := by
  by_cases h1 : n < 1
  · unfold ResSmall at h
    rw [if_pos h1] at h
    rw [h.2.2]; exact Nat.le_refl _
  · rcases small_out h (by omega) h2 with ⟨_, _, _, rfl⟩ | ⟨_, ⟨h, _⟩ | ⟨h, _⟩⟩
    · exact Nat.le_refl _
    · exact h.left
    · exact h.left

theorem small_hangs {n : Int} {L : List Int} {v : Int} {R : List Int} (h : ResSmall n L v 0 R) : ∃ U, L = U ++ R ∧ ∀ Q, ResSmall n (U ++ Q) v 0 Q := by
  unfold ResSmall at h ⊢
  split at h
  · omega
  · rename_i hc
    obtain ⟨ls, h, rfl⟩ := h
    unfold ResBelow at h
    split at h
    · rename_i hc2
      obtain ⟨ms, md, mt, mv, h⟩ := h
      split at h
      · rename_i hc3
        obtain ⟨rfl, _, rfl⟩ := h
        refine ⟨[], rfl, fun Q => ?_⟩
        rw [if_neg hc]
        refine ⟨[], ?_, rfl⟩
        unfold ResBelow
        rw [if_pos hc2]
        exact ⟨ms, md, mt, mv, by rw [if_pos hc3]; exact ⟨rfl, rfl, rfl⟩⟩
      · rename_i hc3
        obtain ⟨r, hd, hr⟩ := h
        rcases hr with ⟨_, _, e⟩ | ⟨x, rfl, hx⟩
        · omega
        · obtain ⟨U, e, hU⟩ := hd.hangs x rfl
          refine ⟨U, e, fun Q => ?_⟩
          rw [if_neg hc]
          refine ⟨ls, ?_, rfl⟩
          unfold ResBelow
          rw [if_pos hc2]
          exact ⟨ms, md, mt, mv, by rw [if_neg hc3]; exact ⟨_, hU Q, .inr ⟨x, rfl, hx⟩⟩⟩
    · omega

theorem Byts.takeN {w : World} {a : Option Addr} {len cap : Nat} {zs : List Int} (h : Byts w a len cap zs) {k : Nat} (hk : k ≤ len) : Byts w a k cap (zs.take k) := by
  have hl := h.hlen
  refine ⟨by simp; omega, Nat.le_trans hk h.hcap, h.hmax, fun hp => ?_, fun x hx => h.word x (List.mem_of_mem_take hx)⟩
  obtain ⟨b, off, ha, hc⟩ := h.cells (by omega)
  refine ⟨b, off, ha, fun i hi => ?_⟩
  rw [hc i (by omega)]
  simp [List.getD, hi]

theorem Digs.app {B : Int} {xs ys : List Int} (h : Digs B xs) (h' : Digs B ys) : Digs B (xs ++ ys) := fun z hz => (List.mem_append.1 hz).elim (h z) (h' z)
set_option maxHeartbeats 1600000 in
theorem walk (a0 : Option Addr) (len0 cap0 : Nat) (z0 : List Int) (a1 : Option Addr) (len1 cap1 : Nat) (z1 : List Int) (x0 : Int) (w : World) (w0 : IsRow .u8 w a0 len0 cap0 z0) (w1 : IsRow .u8 w a1 len1 cap1 z1) (h0 : (Lit.int .i64 x0).wf = true) :
    Calls Try.prog 7 #[.slice a0 len0 cap0, .slice a1 len1 cap1, .int .i64 x0] w fun e w' => e = .returned (.bool true) ∧ Below w.heap.size w w' := by
  have H0 := Byts.of_row w0
  have hnil0 := row_nil w0
  generalize z0.take len0 = bs at H0
  have H1 := Byts.of_row w1
  have hnil1 := row_nil w1
  generalize z1.take len1 = rs at H1
  have hx := int_of_wf h0
  have hc0 := H0.hcap
  have hm0 := H0.hmax
  have hc1 := H1.hcap
  have hm1 := H1.hmax
  unfold maxLen at hm0 hm1
  clear w0 w1 h0
  by_cases hl0 : len0 ≤ 1000
  · have d0 : decide ((1000 : Int) < (len0 : Int)) = false := by simp; omega
    by_cases hl1 : len1 ≤ 1000
    · have d1 : decide ((1000 : Int) < (len1 : Int)) = false := by simp; omega
      go_enter Try.func7, Try.ntmps7
      go_wp2_with fail
      refine (fresh_any _ _ _ _ _ H0 hnil0).mono ?_
      rintro e v1 ⟨hb1, ⟨hl, rfl⟩ | ⟨hl, g, k, rfl, hT, hR, hg, hk⟩⟩
      · omega
      · have A1 := H0.below hb1
        have C1 := H1.below hb1
        clear H0 H1 hR hk hl
        have hh := hT.head
        go_wp2_with fail
        refine (tsmall_any x0 g bs _ hx.2 hT).mono ?_
        rintro e v2 ⟨v, err, R, rfl, hrs, hT2, hg2⟩
        have A2 := A1.head hg2 hh
        have C2 := C1.head hg2 hh
        have hb2 : Below w.heap.size w v2 := hb1.grown hg2 hb1.size (fun q hq => by cases hq; exact hg)
        have hle := small_left hrs hx.2
        have hbl := A2.hlen
        have HRS : Hid (ResSmall x0 bs v err R) := hrs
        clear hrs A1 C1 hT hh hg2 hb1
        have hRl : R.length ≤ len0 := by omega
        have HBL : Hid (bs.length = len0) := hbl
        clear hbl hle
        go_wp2_with fail
        refine (left_any _ _ _ hT2).mono ?_
        rintro e v3 ⟨rfl, rfl⟩
        have u0 : (0 : Int) ≤ (len0 : Int) - (R.length : Int) := by omega
        have u1 : (len0 : Int) - (R.length : Int) ≤ (len0 : Int) := by omega
        have d2 : decide ((len0 : Int) - (R.length : Int) < 0) = false := by simp; omega
        have d3 : decide ((len0 : Int) < (len0 : Int) - (R.length : Int)) = false := by simp; omega
        by_cases he : err = 0
        · subst he
          obtain ⟨U, eU, hU⟩ := small_hangs HRS.out
          obtain ⟨m, hm⟩ : ∃ m : Nat, (len0 : Int) - (R.length : Int) = (m : Int) := ⟨len0 - R.length, by omega⟩
          have hmU : U = bs.take m := by
            have h1 := congrArg List.length eU
            rw [List.length_append, HBL.out] at h1
            rw [eU]; exact (List.take_left' (by omega)).symm
          have hml : m ≤ len0 := by omega
          have d4 : decide ((m : Int) < 0) = false := decide_eq_false (by omega)
          have d5 : decide ((len0 : Int) < (m : Int)) = false := decide_eq_false (by omega)
          have m1 : (m : Int) ≤ (cap0 : Int) := by omega
          have m0 : (0 : Int) ≤ (m : Int) := by omega
          have hown := BOwn.empty v3
          have hb0 := (Below.refl v3.heap.size v3).alloc (Nat.le_refl _) (.cells #[] 5)
          have hU1 : Byts (v3.alloc (.cells #[] 5)) a0 m cap0 U := by rw [hmU]; exact (Byts.takeN A2 hml).below hb0
          have C3 := C2.below hb0
          have HU : Hid (∀ Q, ResSmall x0 (U ++ Q) v 0 Q) := hU
          have hUd : Digs 256 U := hU1.digs
          have hCd : Digs 256 rs := C3.digs
          have hUl := hU1.hlen
          have hCl := C3.hlen
          have HCL : Hid (U.length = m ∧ rs.length = len1) := ⟨hUl, hCl⟩
          have hlen2 : U.length + len1 < 1000000 := by omega
          have hlen2' : ([] ++ U).length + len1 < 1000000 := by simpa using hlen2
          clear hU hmU eU HRS HBL A2 hUl hCl hT2
          have HEnd : Hid (∀ (w3 : World) (a2 : Option Addr) (n2 c2 : Nat), Byts w3 a2 n2 c2 (U ++ rs) → (a2 = none → c2 = 0) → Below v3.heap.size v3 w3 → Calls Try.prog 9 #[.slice a2 n2 c2] w3 fun e w' => ∃ g k, e = .returned (.tuple #[.pointer (some ⟨g, 0, none⟩), .pointer (some ⟨k, 0, none⟩), .bool true]) ∧ TapeAt w' g (U ++ rs) ∧ w.heap.size ≤ g ∧ Below w.heap.size w w') := by
            intro w3 a2 n2 c2 hby hnl hbw
            refine (fresh_any _ _ _ _ _ hby hnl).mono ?_
            rintro e w4 ⟨hb4, ⟨hl, rfl⟩ | ⟨hl, g', k', rfl, hT', -, hg', -⟩⟩
            · have := hby.hlen
              rw [List.length_append] at this
              have := HCL.out
              omega
            · have hB : Below w.heap.size w w3 := hb2.trans (hbw.mono hb2.size)
              exact ⟨g', k', rfl, hT', Nat.le_trans hB.size hg', hB.trans (hb4.mono hB.size)⟩
          have hnul : ∀ {a2 : Option Addr} {n2 c2 : Nat}, (a2 ≠ none) → (a2 = none → c2 = 0) := fun h e => absurd e h
          cases a0 with
          | none =>
            have z1 : cap0 = 0 := hnil0 rfl
            subst z1
            have z2 : len0 = 0 := by omega
            subst z2
            have z3 : m = 0 := by omega
            subst z3
            have z4 : R = [] := List.eq_nil_of_length_eq_zero (by omega)
            subst z4
            clear hm d2 d3 d4 d5 u0 u1 m0 m1 hml d0 hc0 hm0 hl0 hRl
            have z5 : U = [] := List.eq_nil_of_length_eq_zero HCL.out.1
            subst z5
            have hl5 : ([] : List Int).length + len1 < 1000000 := by simp; omega
            clear hU1 hlen2 hlen2'
            go_wp2_with (at_builtin; refine wpList_appBN _ rfl _ _ 22 rfl Try.underlying22 v3.heap.size _ [] rfl hown a1 len1 cap1 rs rfl C3 hnil1 hl5 v3 (by simp) hb0 ?_)
            intro q2 w3 own2 hbw2 nn2
            obtain ⟨a2, n2, c2, rfl, hby, -, hne⟩ := own2.fresh (by simpa using hCd)
            have hnz := hnul (n2 := n2) (c2 := c2) (hne (by first | exact nn2 (by simp) | exact nn2 | simp_all))
            clear own2 nn2 hne hown hb0 C3
            go_wp2_with fail
            refine (HEnd.out _ _ _ _ hby hnz hbw2).mono ?_
            rintro e w4 ⟨g4, k4, rfl, hT4, hg4, hB4⟩
            clear hby hbw2 HEnd hb2 C2
            go_wp2_with fail
            refine (tsmall_any x0 g4 _ _ hx.2 hT4).mono ?_
            rintro e w5 ⟨v5, err5, R5, rfl, hrs5, hT5, hg5⟩
            obtain ⟨e1, e2, e3⟩ := hrs5.unique (HU.out rs)
            subst e1
            subst e2
            subst e3
            have hB5 : Below w.heap.size w w5 := hB4.grown hg5 hB4.size (fun q hq => by cases hq; exact hg4)
            clear hrs5 hT4 hg5 hB4
            go_wp2_with fail
            refine (left_any _ _ _ hT5).mono ?_
            rintro e w6 ⟨rfl, rfl⟩
            rw [HCL.out.2]
            go_wp2
            go_ret
            exact ⟨by simp, hB5⟩
          | some x =>
            go_wp2_with (at_builtin; refine wpList_appBN _ rfl _ _ 22 rfl Try.underlying22 v3.heap.size _ [] rfl hown (some x) m cap0 U rfl hU1 (fun e => by cases e) (by simp; omega) v3 (by simp) hb0 ?_)
            intro q1 w2 own1 hbw1 nn1
            have C4 := C2.below hbw1
            clear hown hb0 hU1 C3
            go_wp2_with (at_builtin; refine wpList_appBN _ rfl _ _ 22 rfl Try.underlying22 v3.heap.size _ _ rfl own1 a1 len1 cap1 rs rfl C4 hnil1 hlen2' v3 hbw1.size hbw1 ?_)
            intro q2 w3 own2 hbw2 nn2
            obtain ⟨a2, n2, c2, rfl, hby, -, hne⟩ := own2.fresh (by simpa using Digs.app hUd hCd)
            have hnz := hnul (n2 := n2) (c2 := c2) (hne (by first | exact nn2 (nn1 (by simp)) | simp_all))
            try rw [List.nil_append] at hby
            clear own1 own2 nn1 nn2 hne C4 hbw1
            go_wp2_with fail
            refine (HEnd.out _ _ _ _ hby hnz hbw2).mono ?_
            rintro e w4 ⟨g4, k4, rfl, hT4, hg4, hB4⟩
            clear hby hbw2 HEnd hb2 C2
            go_wp2_with fail
            refine (tsmall_any x0 g4 _ _ hx.2 hT4).mono ?_
            rintro e w5 ⟨v5, err5, R5, rfl, hrs5, hT5, hg5⟩
            obtain ⟨e1, e2, e3⟩ := hrs5.unique (HU.out rs)
            subst e1
            subst e2
            subst e3
            have hB5 : Below w.heap.size w w5 := hB4.grown hg5 hB4.size (fun q hq => by cases hq; exact hg4)
            clear hrs5 hT4 hg5 hB4
            go_wp2_with fail
            refine (left_any _ _ _ hT5).mono ?_
            rintro e w6 ⟨rfl, rfl⟩
            rw [HCL.out.2]
            go_wp2
            go_ret
            exact ⟨by simp, hB5⟩
        · have hen : (err == 0) = false := by simp [he]
          go_wp2
          go_ret
          exact ⟨by simp [he], hb2⟩
    · have d1 : (1000 : Int) < (len1 : Int) := by omega
      go_enter Try.func7, Try.ntmps7
      go_wp2
      go_ret
      exact ⟨rfl, Below.refl _ _⟩
  · have d0 : (1000 : Int) < (len0 : Int) := by omega
    go_enter Try.func7, Try.ntmps7
    go_wp2
    go_ret
    exact ⟨rfl, Below.refl _ _⟩

set_option maxRecDepth 100000 in
theorem lifted (os : Os) (started : os.Started) (H : Type) (enc : TypeId × Value → H) :
    ReturnsInHanded {} Try.checked os 7 .any (Rows.tapeHangsSpec.pre6 enc Try.prog Try.f7 Rows.tapeHangsRow.domain false) (Rows.tapeHangsSpec.post enc Try.prog Try.f7 false true false false) := by
  refine returnsInHanded_of_change (C := Try.checked) own started (by kernel_rfl) Try.func7
    (ChangeSpec.witness6 (enc := enc) (C := Try.checked) false ⟨#[], #[.slice none 0 0, .slice none 0 0, .int .i64 0], []⟩ 8 (by kernel_rfl) (by kernel_rfl) (by kernel_rfl) (by kernel_rfl)) ?_
  intro W base args ds gs before hval0 hW hcnd _
  have hval : ∀ (j : Nat) t v, Try.f7.params[j]? = some t → args[j]? = some v → Value.okWide Try.prog W .any base t v := hval0
  have hW' := hW
  obtain ⟨p, q, hA0, hV, rfl, hfz, hnd⟩ := hW
  have hA : DataW.TrodAll enc Try.prog W 0 (fun _ => true) true Try.f7.params.toList args.toList ds p := hA0
  rw [Try.params7] at hA hval
  obtain ⟨v0, vs0, d0, ds0, p0, q0, hargs, rfl, rfl, h0, r0⟩ := trodAll_cons hA
  obtain ⟨v1, vs1, d1, ds1, p1, q1, rfl, rfl, rfl, h1, r1⟩ := trodAll_cons r0
  obtain ⟨v2, vs2, d2, ds2, p2, q2, rfl, rfl, rfl, h2, r2⟩ := trodAll_cons r1
  obtain ⟨rfl, rfl, rfl⟩ := trodAll_nil r2
  obtain rfl : args = #[v0, v1, v2] := by cases args; simp_all
  obtain ⟨rfl, rfl⟩ := trodVars_none hV
  obtain ⟨a0, len0, cap0, rfl⟩ := okWide_slice Try.underlying22 (hval 0 22 v0 rfl rfl)
  have k0 := h0
  have lt0 : ∀ x ∈ p0, x.block < W.heap.size := by obtain ⟨m, hm⟩ := k0; exact DataW.trod_lt m _ _ _ hm
  obtain ⟨z0, w0⟩ : ∃ zs, IsRow .u8 W a0 len0 cap0 zs := by
    obtain ⟨fuel, hf⟩ := h0
    obtain ⟨a, l, c, zs, e, hz⟩ := open_oneB hf
    simp at e
    obtain ⟨rfl, rfl, rfl⟩ := e
    exact ⟨zs, hz⟩
  obtain ⟨a1, len1, cap1, rfl⟩ := okWide_slice Try.underlying22 (hval 1 22 v1 rfl rfl)
  have k1 := h1
  have lt1 : ∀ x ∈ p1, x.block < W.heap.size := by obtain ⟨m, hm⟩ := k1; exact DataW.trod_lt m _ _ _ hm
  obtain ⟨z1, w1⟩ : ∃ zs, IsRow .u8 W a1 len1 cap1 zs := by
    obtain ⟨fuel, hf⟩ := h1
    obtain ⟨a, l, c, zs, e, hz⟩ := open_oneB hf
    simp at e
    obtain ⟨rfl, rfl, rfl⟩ := e
    exact ⟨zs, hz⟩
  have k2 := h2
  have lt2 : ∀ x ∈ p2, x.block < W.heap.size := by obtain ⟨m, hm⟩ := k2; exact DataW.trod_lt m _ _ _ hm
  obtain ⟨x0, hv2, -, -, i0⟩ := open_int Try.underlying3 (hval 2 3 v2 rfl rfl) h2
  subst hv2
  clear hA0 hval0
  refine (walk a0 len0 cap0 z0 a1 len1 cap1 z1 x0 W w0 w1 i0).mono fun e W' ⟨he, bel⟩ => ?_
  subst he
  exact ⟨_, rfl, _, _, _, [], _, [], hW', trodAll_mk1 (shut_bool Try.underlying4 _), (trodAll_cons_mk (Below.trod laidOut (by kernel_rfl) (of_decide_eq_true (by kernel_rfl)) k0 bel lt0) (trodAll_cons_mk (Below.trod laidOut (by kernel_rfl) (of_decide_eq_true (by kernel_rfl)) k1 bel lt1) (trodAll_cons_mk (Below.trod laidOut (by kernel_rfl) (of_decide_eq_true (by kernel_rfl)) k2 bel lt2) trodAll_mk0))), rfl, bel.frame _, fun h => by cases h⟩

theorem over : Rows.tapeHangsRow.holds Try.pinned (OpenSpec.ofChange Rows.tapeHangsSpec) :=
  OpenClaim.holds_of_wide 7 Try.f7 rfl rfl rfl rfl rfl rfl rfl ⟨rfl, rfl, rfl, rfl, rfl⟩ rfl rfl rfl rfl rfl (by kernel_rfl) Try.func7 (by kernel_rfl)
    (of_decide_eq_true (by kernel_rfl)) (by unfold Func.isWrapper; first | (rw [if_pos (by decide +kernel)]; kernel_rfl) | (rw [if_neg (by decide +kernel)]; exact ⟨rfl, rfl⟩))
    (fun os started H enc _ => lifted os started H enc)

theorem proved : Rows.TapeHangsSaid := over
end Go.Proofs.Ytfafbggijhghcaa.tapeHangs
namespace Go.Proofs.Ytfafbggijhghcaa
theorem tapeHangs_holds : Rows.TapeHangsSaid := tapeHangs.proved
#print axioms tapeHangs_holds
end Go.Proofs.Ytfafbggijhghcaa

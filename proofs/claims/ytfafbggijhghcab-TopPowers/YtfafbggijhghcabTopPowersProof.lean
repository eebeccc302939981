/-
  The statement TopPowers holds of the code at the commit that is named beside it, for every input.
-/
import Derived.Test.YtfafbggijhghcabRows
import Derived.Test.YtfafbggijhghcabNatA
import Derived.Test.YtfafbggijhghcabMontC
import Derived.Test.YtfafbggijhghcabFermat
import Derived.Test.YtfafbggijhghcabRefGcd
import Derived.Test.YtfafbggijhghcabInvC
import Derived.WalkKit
import Derived.ProofKit
import Derived.OpenShut
import Derived.ShutString
import Derived.ChangeOld
import Derived.Below
import Derived.Deep.Cut
import Derived.Deep.DeepCutAuto
import Derived.Deep.RegionWith
import Derived.BigRegion
namespace Go.Proofs.Ytfafbggijhghcab.topPowers
open Go.ChangeShapes Go.WideShapes Go.ChangeAt Go.RowKit
open Go.ChangeMaps (open_string shut_string)
set_option linter.unusedVariables false

theorem own : ownKnob Try.prog.godebug = none := by kernel_rfl
theorem laidOut : laidOutB Try.prog = true := by kernel_rfl

theorem open_one {H : Type} {enc : TypeId × Value → H} {W : World} {m : Nat} {c : Value} {x : DataW H × List MemPlace} (hf : DataW.trod enc Try.prog W 0 (fun _ => true) true m 23 [c] = some x) : ∃ a len cap zs, c = .slice a len cap ∧ IsRow .u64 W a len cap zs := by
  rcases open_ints Try.underlying23 Try.underlying30 (by kernel_rfl) hf with ⟨hcs, _⟩ | ⟨x, l, c, zs, hcs, _, hl, hm, hz, _, hcell, hwz⟩
  · simp at hcs
    exact ⟨none, 0, 0, [], hcs, .inl ⟨rfl, rfl, rfl, rfl⟩⟩
  · simp at hcs
    exact ⟨_, _, _, zs, hcs, .inr ⟨_, rfl, hl, hm, by simpa using hz, hcell, hwz⟩⟩

set_option maxRecDepth 100000 in
theorem open_arr3 {H : Type} {enc : TypeId × Value → H} {W : World} {base : Nat} {v : Value} {d : DataW H} {ps : List MemPlace} (hv : Value.okWide Try.prog W .any base 32 v) (h : DataW.Trod enc Try.prog W 0 (fun _ => true) true 32 v d ps) :
    ∃ a0 len0 cap0 z0 a1 len1 cap1 z1 a2 len2 cap2 z2, v = .agg #[.slice a0 len0 cap0, .slice a1 len1 cap1, .slice a2 len2 cap2] ∧ IsRow .u64 W a0 len0 cap0 z0 ∧ IsRow .u64 W a1 len1 cap1 z1 ∧ IsRow .u64 W a2 len2 cap2 z2 := by
  have hu : Try.prog.underlying 32 = some (.array 3 23) := Try.underlying32
  have hce : Try.prog.cellsOf 23 = 1 := by kernel_rfl
  have hca : Try.prog.cellsOf 32 = 3 := by kernel_rfl
  simp only [Value.okWide, hu] at hv
  obtain ⟨cs, rfl, hsz, _⟩ := hv
  rw [hca] at hsz
  obtain ⟨c0, c1, c2, rfl⟩ : ∃ c0 c1 c2, cs = #[c0, c1, c2] := by
    obtain ⟨l⟩ := cs
    match l, hsz with
    | [c0, c1, c2], _ => exact ⟨c0, c1, c2, rfl⟩
  obtain ⟨fuel, hf⟩ := h
  obtain ⟨xs, m, _, _, _, hl, hx⟩ := DataW.trod_array hu hf
  have q0 := hx 0 (by decide)
  rw [hce] at q0
  obtain ⟨x0, e0⟩ : ∃ x0, xs[0]? = some x0 := ⟨_, List.getElem?_eq_getElem (by omega)⟩
  rw [e0] at q0
  obtain ⟨a0, len0, cap0, z0, rfl, w0⟩ := open_one (c := c0) (by simpa [Value.cells] using q0)
  have q1 := hx 1 (by decide)
  rw [hce] at q1
  obtain ⟨x1, e1⟩ : ∃ x1, xs[1]? = some x1 := ⟨_, List.getElem?_eq_getElem (by omega)⟩
  rw [e1] at q1
  obtain ⟨a1, len1, cap1, z1, rfl, w1⟩ := open_one (c := c1) (by simpa [Value.cells] using q1)
  have q2 := hx 2 (by decide)
  rw [hce] at q2
  obtain ⟨x2, e2⟩ : ∃ x2, xs[2]? = some x2 := ⟨_, List.getElem?_eq_getElem (by omega)⟩
  rw [e2] at q2
  obtain ⟨a2, len2, cap2, z2, rfl, w2⟩ := open_one (c := c2) (by simpa [Value.cells] using q2)
  exact ⟨a0, len0, cap0, z0, a1, len1, cap1, z1, a2, len2, cap2, z2, rfl, w0, w1, w2⟩

theorem rest_pow (a p : Int) : ∀ n : Nat, (a % p) ^ n % p = a ^ n % p
  | 0 => by simp
  | n + 1 => by
    rw [Int.pow_succ, Int.pow_succ, Int.mul_emod, rest_pow a p n, ← Int.mul_emod]
    rw [Int.mul_emod, Int.emod_emod_of_dvd _ (Int.dvd_refl p), ← Int.mul_emod]

theorem pow_times (x y p : Int) (E : Nat) : (x * y % p) ^ E % p = ((x ^ E % p) * (y ^ E % p)) % p := by
  rw [rest_pow, Int.mul_pow, Int.mul_emod]

theorem undoZ {p : Nat} {x E I : Nat} (h : Pr p) (hp : 5 ≤ p) (hx : x < p) (hei : ((E : Int) * (I : Int)) % ((p : Int) - 1) = 1) : (((x : Int) ^ E % (p : Int)) ^ I) % (p : Int) = (x : Int) := by
  have h1 : E * I % (p - 1) = 1 := by
    have e : ((p - 1 : Nat) : Int) = (p : Int) - 1 := by omega
    rw [← e] at hei
    exact_mod_cast hei
  have h2 := undo h (by omega) hx (e := E) (i := I) (by rw [h1, Nat.mod_eq_of_lt (by omega)]) (by
    rcases Nat.eq_zero_or_pos (E * I) with e | e
    · rw [e, Nat.zero_mod] at h1; omega
    · exact e)
  exact_mod_cast h2

theorem rest_of {zs ns qs rs : List Int} {e : Int} (hn : rightB ns = true) (h0 : ns.length ≠ 0) (hp : 0 < val 18446744073709551616 ns) (h : ResDiv zs ns qs rs e) : belowB rs ns = true ∧ Digs 18446744073709551616 rs ∧ (rightB zs = true → val 18446744073709551616 rs = val 18446744073709551616 zs % val 18446744073709551616 ns) := by
  unfold ResDiv at h
  cases hz : rightB zs with
  | false =>
    rw [hz] at h
    simp only [Bool.false_and, Bool.false_eq_true, if_false] at h
    obtain ⟨_, _, rfl⟩ := h
    exact ⟨below_mk rfl (by simpa [val] using hp), Digs.nil _, fun e => by cases e⟩
  | true =>
    rw [hz, hn, if_pos (show (true && true) = true from rfl), if_neg h0] at h
    obtain ⟨_, _, d, _, r, _, v⟩ := h
    exact ⟨below_mk r (by rw [v]; exact Int.emod_lt_of_pos _ hp), d, fun _ => v⟩

theorem lists_same {xs ys : List Int} (dx : Digs 18446744073709551616 xs) (dy : Digs 18446744073709551616 ys) (rx : rightB xs = true) (ry : rightB ys = true) (h : val 18446744073709551616 xs = val 18446744073709551616 ys) : xs = ys := val_inj (by decide) dx dy (right_top rx) (right_top ry) h

theorem exp_ok {zs xs es ls : List Int} {E : Nat} {err : Int} (hx : belowB xs zs = true) (he : rightB es = true) (hl : es.length ≤ 8) (h : ResExp (expB xs es zs) zs (val 18446744073709551616 xs) E ls err) : err = 0 ∧ Digs 18446744073709551616 ls ∧ belowB ls zs = true ∧ val 18446744073709551616 ls = val 18446744073709551616 xs ^ E % val 18446744073709551616 zs := by
  have e : expB xs es zs = true := by simp [expB, hx, he, hl]
  rw [e] at h
  simpa [ResExp] using h
set_option maxRecDepth 20000 in
set_option maxHeartbeats 6400000 in
theorem walk (x0 : Int) (a0 : Option Addr) (len0 cap0 : Nat) (z0 : List Int) (a1 : Option Addr) (len1 cap1 : Nat) (z1 : List Int) (a2 : Option Addr) (len2 cap2 : Nat) (z2 : List Int) (w : World) (h0 : (Lit.int .u64 x0).wf = true) (w0 : IsRow .u64 w a0 len0 cap0 z0) (w1 : IsRow .u64 w a1 len1 cap1 z1) (w2 : IsRow .u64 w a2 len2 cap2 z2) :
    Calls Try.prog 4 #[.int .u64 x0, .agg #[.slice a0 len0 cap0, .slice a1 len1 cap1, .slice a2 len2 cap2]] w fun e w' => e = .returned (.bool true) ∧ Below w.heap.size w w' := by
  have H0 := Nums.of_row w0
  have H1 := Nums.of_row w1
  have H2 := Nums.of_row w2
  have hx := word_of_wf h0
  have b0 := (Below.refl w.heap.size w).alloc (Nat.le_refl _) (.cells #[.slice a0 len0 cap0, .slice a1 len1 cap1, .slice a2 len2 cap2] 32)
  replace H0 := H0.below b0
  replace H1 := H1.below b0
  replace H2 := H2.below b0
  generalize z0.take len0 = zs at H0
  generalize z1.take len1 = ys at H1
  generalize z2.take len2 = es at H2
  have F := tfew_three a0 a1 a2 len0 cap0 len1 cap1 len2 cap2 zs ys es _ H0 H1 H2
  simp only [World.size_alloc] at F
  have m0 := H0.hmax
  have m1 := H1.hmax
  have m2 := H2.hmax
  have l0 := H0.hcap
  have l1 := H1.hcap
  have l2 := H2.hcap
  unfold maxLen at m0 m1 m2
  clear w0 w1 w2 h0
  cases hf : manyB 20 [len0, len1, len2] with
  | false =>
    rw [hf] at F
    go_enter Try.func4, Try.ntmps4
    go_wp2_with fail
    refine F.mono ?_
    rintro e v0 ⟨rfl, -, -, -, hb⟩
    have hB := b0.trans (hb.mono (by omega))
    go_wp2_with fail
    go_ret
    exact ⟨rfl, hB⟩
  | true =>
  rw [hf] at F
  have hl20 : len0 ≤ 20 ∧ len2 ≤ 20 := by simp [manyB] at hf; omega
  clear H0 H1 H2 hf
  go_enter Try.func4, Try.ntmps4
  go_wp2_with fail
  refine F.mono ?_
  rintro e v0 ⟨rfl, A0, A1, A2, hb0⟩
  have hB0 : Below w.heap.size w v0 := b0.trans (hb0.mono (by omega))
  clear F b0 hb0
  by_cases c3 : x0 < 3
  · go_wp2_with fail
    go_ret
    exact ⟨rfl, hB0⟩
  have d3 : decide (x0 < 3) = false := decide_eq_false c3
  by_cases c32 : 4294967296 ≤ x0
  · go_wp2_with fail
    go_ret
    exact ⟨rfl, hB0⟩
  have d32 : decide (4294967296 ≤ x0) = false := decide_eq_false c32
  have px : 3 ≤ x0 ∧ x0 < 4294967296 := by omega
  clear c3 c32 hx
  go_wp2_with fail
  go_loopw [8] (fun dv wr => ∃ k : Nat, 2 ≤ k ∧ k ≤ 65536 ∧ dv = .int .u64 k ∧ Hid (∀ j : Nat, 2 ≤ j → j < k → x0 % (j : Int) ≠ 0) ∧ wr = v0) (fun dv _ => 65537 - (intOf dv).toNat)
  case atStart => exact ⟨2, by omega, by omega, rfl, fun j h1 h2 => by omega, rfl⟩
  case round =>
    obtain ⟨k, hk2, hk6, rfl, HK, rfl⟩ := hrel
    have q1 : (k : Int) * (k : Int) ≤ 65536 * 65536 := Int.mul_le_mul (by omega) (by omega) (by omega) (by omega)
    have q0 : 0 ≤ (k : Int) * (k : Int) := Int.mul_nonneg (by omega) (by omega)
    have q2 : (k : Int) * (k : Int) < 18446744073709551616 := by omega
    by_cases hkk : (k : Int) * (k : Int) ≤ x0
    · have hk5 : k < 65536 := by
        rcases Nat.lt_or_ge k 65536 with h | h
        · exact h
        · have : (65536 : Int) * 65536 ≤ (k : Int) * (k : Int) := Int.mul_le_mul (by omega) (by omega) (by omega) (by omega)
          omega
      have hkp : (0 : Int) < (k : Int) := by omega
      by_cases hr : x0 % (k : Int) = 0
      · go_wp2_with fail
        go_ret
        exact ⟨rfl, hB0⟩
      · have hr' : (x0 % (k : Int) == 0) = false := by simp [hr]
        have HK2 : Hid (∀ j : Nat, 2 ≤ j → j < k + 1 → x0 % (j : Int) ≠ 0) := fun j h1 h2 => by
          by_cases e : j = k
          · subst e; exact hr
          · exact HK.out j h1 (by omega)
        clear HK hr
        go_wp2_with fail
        go_roundw
        case rel => exact ⟨k + 1, by omega, by omega, by go_num, HK2, by first | rfl | trivial⟩
        case measure => simp [intOf]; omega
    · have hkd : decide ((k : Int) * (k : Int) ≤ x0) = false := decide_eq_false hkk
      obtain ⟨p, hp⟩ : ∃ p : Nat, x0 = (p : Int) := ⟨x0.toNat, by omega⟩
      have hP : Pr p := pr_of (by omega) (fun d h1 h2 e => by
        have hdk : d < k := by
          rcases Nat.lt_or_ge d k with h | h
          · exact h
          · exfalso
            have : (k : Int) * (k : Int) ≤ (d : Int) * (d : Int) := Int.mul_le_mul (by omega) (by omega) (by omega) (by omega)
            have h3 : ((d * d : Nat) : Int) ≤ (p : Int) := by exact_mod_cast h2
            rw [Int.natCast_mul] at h3
            omega
        refine HK.out d h1 hdk ?_
        rw [hp]
        exact_mod_cast e)
      have HPr : Hid (Pr p ∧ x0 = (p : Int)) := ⟨hP, hp⟩
      have hodd : x0 % 2 = 1 := by
        by_cases h4 : 2 < k
        · have := HK.out 2 (by omega) h4
          simp at this
          omega
        · have : k = 2 := by omega
          subst this
          simp at hkk
          omega
      have hNv : val 18446744073709551616 [x0] = x0 := by simp [val]
      have hNr : rightB [x0] = true := by simp [rightB]; omega
      have hmay : mayB [x0] = true := by simp [mayB, hNr, hodd]; omega
      have HN : Hid (val 18446744073709551616 [x0] = x0) := hNv
      clear HK hkk hP hp hNv
      have L1 := Nums.lit1 wr x0 (by omega) 30
      have b1 := (Below.refl wr.heap.size wr).alloc (Nat.le_refl _) (.cells #[.int .u64 x0] 30)
      replace A0 := A0.below b1
      replace A1 := A1.below b1
      replace A2 := A2.below b1
      have hB1 := hB0.alloc hB0.size (.cells #[.int .u64 x0] 30)
      clear hB0 b1
      go_wp2_with fail
      refine (new_any _ _ _ _ _ L1).mono ?_
      rintro e v2 ⟨⟨hno, _⟩ | ⟨_, g, f, qs, rfl, hRA, hRO⟩, hb2⟩
      · rw [hmay] at hno; cases hno
      replace A0 := A0.below hb2
      replace A1 := A1.below hb2
      replace A2 := A2.below hb2
      replace L1 := L1.below hb2
      have hB2 := hB1.trans (hb2.mono hB1.size)
      clear hB1 hb2 hmay
      generalize wr.heap.size = gn at *
      go_wp2_with fail
      refine (refRest_any _ _ _ _ _ _ _ _ _ A0 L1).mono ?_
      rintro e v3 ⟨xa, xn, xc, xs, q3, e3, rfl, hX, hXr, hb3⟩
      obtain ⟨xb, xd, xv⟩ := rest_of hNr (by simp) (by rw [HN.out]; omega) hXr
      replace A0 := A0.below hb3
      replace A1 := A1.below hb3
      replace A2 := A2.below hb3
      replace L1 := L1.below hb3
      replace hRA := hRA.below hb3
      have hB3 := hB2.trans (hb3.mono hB2.size)
      clear hB2 hb3 hXr
      go_wp2_with fail
      refine (refRest_any _ _ _ _ _ _ _ _ _ A1 L1).mono ?_
      rintro e v4 ⟨ya, yn, yc, yv, q4, e4, rfl, hY, hYr, hb4⟩
      obtain ⟨yb, yd, yvv⟩ := rest_of hNr (by simp) (by rw [HN.out]; omega) hYr
      replace A0 := A0.below hb4
      replace A1 := A1.below hb4
      replace A2 := A2.below hb4
      replace L1 := L1.below hb4
      replace hX := hX.below hb4
      replace hRA := hRA.below hb4
      have hB4 := hB3.trans (hb4.mono hB3.size)
      have dl0 : decide ((20 : Int) < (len0 : Int)) = false := decide_eq_false (by omega)
      clear hB3 hb4 hYr yvv xv
      by_cases c8 : 8 < len2
      · have dl2 : (8 : Int) < (len2 : Int) := by omega
        go_wp2_with fail
        go_ret
        exact ⟨rfl, hB4⟩
      have dl2 : decide ((8 : Int) < (len2 : Int)) = false := decide_eq_false (by omega)
      have hel := A2.hlen
      obtain ⟨E, hE⟩ : ∃ E : Nat, val 18446744073709551616 es = (E : Int) := ⟨(val 18446744073709551616 es).toNat, by have := val_nonneg (B := 18446744073709551616) (by decide) A2.digs; omega⟩
      have HEL : Hid (es.length = len2 ∧ val 18446744073709551616 es = (E : Int)) := ⟨hel, hE⟩
      clear hel
      go_wp2_with fail
      refine (mExp_any _ _ _ _ _ _ _ _ _ _ _ _ E _ hRA hRO hX A2 hE).mono ?_
      rintro e v5 ⟨ua, un, uc, us, ue, rfl, hU, hUr, hb5⟩
      have HU := (show Hid _ from hUr)
      replace A0 := A0.below hb5
      replace A1 := A1.below hb5
      replace A2 := A2.below hb5
      replace L1 := L1.below hb5
      replace hX := hX.below hb5
      replace hY := hY.below hb5
      replace hRA := hRA.below hb5
      have hB5 := hB4.trans (hb5.mono hB4.size)
      clear hB4 hb5 hUr
      go_wp2_with fail
      refine (mExp_any _ _ _ _ _ _ _ _ _ _ _ _ E _ hRA hRO hY A2 hE).mono ?_
      rintro e v6 ⟨va, vn, vc, vs', ve, rfl, hVn, hVr, hb6⟩
      have HVr := (show Hid _ from hVr)
      replace A0 := A0.below hb6
      replace A1 := A1.below hb6
      replace A2 := A2.below hb6
      replace L1 := L1.below hb6
      replace hX := hX.below hb6
      replace hY := hY.below hb6
      replace hU := hU.below hb6
      replace hRA := hRA.below hb6
      have hB6 := hB5.trans (hb6.mono hB5.size)
      clear hB5 hb6 hVr
      go_wp2_with fail
      refine (mtimes_any _ _ _ _ _ _ _ _ _ _ _ _ _ hX hY L1 hRO.modOk xb yb).mono ?_
      rintro e v7 ⟨ta, tn, tc, ts, rfl, hT, tb, tv, hb7⟩
      have HTv := (show Hid _ from tv)
      replace A0 := A0.below hb7
      replace A1 := A1.below hb7
      replace A2 := A2.below hb7
      replace L1 := L1.below hb7
      replace hX := hX.below hb7
      replace hU := hU.below hb7
      replace hVn := hVn.below hb7
      replace hRA := hRA.below hb7
      have hB7 := hB6.trans (hb7.mono hB6.size)
      clear hB6 hb7 tv hY
      go_wp2_with fail
      refine (mExp_any _ _ _ _ _ _ _ _ _ _ _ _ E _ hRA hRO hT A2 hE).mono ?_
      rintro e v8 ⟨wa, wn, wc, ws, we, rfl, hW, hWr, hb8⟩
      have HWr := (show Hid _ from hWr)
      replace A0 := A0.below hb8
      replace A1 := A1.below hb8
      replace A2 := A2.below hb8
      replace L1 := L1.below hb8
      replace hX := hX.below hb8
      replace hU := hU.below hb8
      replace hVn := hVn.below hb8
      replace hRA := hRA.below hb8
      have hB8 := hB7.trans (hb8.mono hB7.size)
      clear hB7 hb8 hWr hT hE
      go_wp2_with fail
      refine (refRight_any _ _ _ _ _ A0).mono ?_
      rintro e v9 ⟨rfl, rfl⟩
      go_wp2_with fail
      refine (refRight_any _ _ _ _ _ A1).mono ?_
      rintro e v9 ⟨rfl, rfl⟩
      go_wp2_with fail
      refine (refRight_any _ _ _ _ _ A2).mono ?_
      rintro e v9 ⟨rfl, rfl⟩
      cases hra : rightB zs with
      | false =>
        go_wp2_with fail
        go_ret
        exact ⟨rfl, hB8⟩
      | true =>
      cases hrb : rightB ys with
      | false =>
        go_wp2_with fail
        go_ret
        exact ⟨rfl, hB8⟩
      | true =>
      cases hre : rightB es with
      | false =>
        go_wp2_with fail
        go_ret
        exact ⟨rfl, hB8⟩
      | true =>
      obtain ⟨rfl, ud, ub, uv⟩ := exp_ok xb hre (by have := HEL.out.1; omega) HU.out
      obtain ⟨rfl, vd, vb, vv⟩ := exp_ok yb hre (by have := HEL.out.1; omega) HVr.out
      obtain ⟨rfl, wd, wb, wv⟩ := exp_ok tb hre (by have := HEL.out.1; omega) HWr.out
      have HVal : Hid (val 18446744073709551616 us = val 18446744073709551616 xs ^ E % val 18446744073709551616 [x0] ∧ val 18446744073709551616 ws = (val 18446744073709551616 us * val 18446744073709551616 vs') % val 18446744073709551616 [x0]) := by
        refine ⟨uv, ?_⟩
        rw [wv, HTv.out, uv, vv, pow_times]
      clear uv vv wv HU HVr HWr HTv
      go_wp2_with fail
      refine (mtimes_any _ _ _ _ _ _ _ _ _ _ _ _ _ hU hVn L1 hRO.modOk ub vb).mono ?_
      rintro e v10 ⟨ka, kn, kc, ks, rfl, hK, kb, kv, hb10⟩
      have hsame : ws = ks := lists_same wd hK.digs (below_parts wb).1 (below_parts kb).1 (by rw [HVal.out.2, kv])
      subst hsame
      replace A2 := A2.below hb10
      replace L1 := L1.below hb10
      replace hX := hX.below hb10
      replace hU := hU.below hb10
      replace hW := hW.below hb10
      replace hRA := hRA.below hb10
      have hB10 := hB8.trans (hb10.mono hB8.size)
      clear hB8 hb10 kv A0 A1 hVn
      go_wp2_with fail
      refine (same_any _ _ _ _ _ _ _ _ _ hW hK).mono ?_
      rintro e v11 ⟨rfl, hb11⟩
      rw [sameB_self]
      replace A2 := A2.below hb11
      replace hX := hX.below hb11
      replace hU := hU.below hb11
      replace hRA := hRA.below hb11
      have hB11 := hB10.trans (hb11.mono hB10.size)
      clear hB10 hb11 hW hK L1
      by_cases c3 : x0 = 3
      · have c3' : (x0 == 3) = true := by simp [c3]
        clear c3
        go_wp2_with fail
        go_ret
        exact ⟨rfl, hB11⟩
      have c3' : (x0 == 3) = false := by simp [c3]
      have hx1 : 0 ≤ x0 - 1 ∧ x0 - 1 < 18446744073709551616 := by omega
      have L2 := Nums.lit1 v11 (x0 - 1) hx1 30
      have b12 := (Below.refl v11.heap.size v11).alloc (Nat.le_refl _) (.cells #[.int .u64 (x0 - 1)] 30)
      replace A2 := A2.below b12
      replace hX := hX.below b12
      replace hU := hU.below b12
      replace hRA := hRA.below b12
      have hB12 := hB11.alloc hB11.size (.cells #[.int .u64 (x0 - 1)] 30)
      have hMr : rightB [x0 - 1] = true := by simp [rightB]; omega
      have hMv : val 18446744073709551616 [x0 - 1] = x0 - 1 := by simp [val]
      have HMv : Hid (val 18446744073709551616 [x0 - 1] = x0 - 1) := hMv
      have HC3 : Hid (x0 ≠ 3) := c3
      clear hB11 b12 hMv c3
      go_wp2_with fail
      refine (inverse_of _ _ _ _ _ _ _ _ _ A2 L2).mono ?_
      rintro e v13 ⟨ia, iN, ic, is', ie, rfl, hI, hIr, hb13⟩
      unfold ResInv at hIr
      rw [hre, hMr, HMv.out, if_pos (by simp; omega)] at hIr
      replace hX := hX.below hb13
      replace hU := hU.below hb13
      replace hRA := hRA.below hb13
      have hB13 := hB12.trans (hb13.mono hB12.size)
      clear hB12 hb13 A2 L2
      split at hIr
      · obtain ⟨rfl, idg, ir, il, iprod⟩ := hIr
        obtain ⟨I, hI2⟩ : ∃ I : Nat, val 18446744073709551616 is' = (I : Int) := ⟨(val 18446744073709551616 is').toNat, by have := val_nonneg (B := 18446744073709551616) (by decide) idg; omega⟩
        have hil : is'.length ≤ 8 := by
          have h1 := len_le (B := 18446744073709551616) (by decide) idg (right_top ir) (k := 1) (by omega)
          omega
        have HIp : Hid (((E : Int) * (I : Int)) % (x0 - 1) = 1) := by show _ = _; rw [← HEL.out.2, ← hI2]; exact iprod
        clear iprod il
        go_wp2_with fail
        refine (mExp_any _ _ _ _ _ _ _ _ _ _ _ _ I _ hRA hRO hU hI hI2).mono ?_
        rintro e v14 ⟨ra, rn, rc, rs, re, rfl, hR, hRr, hb14⟩
        obtain ⟨rfl, rd, rb, rv⟩ := exp_ok ub ir hil hRr
        have hxs : rs = xs := lists_same rd xd (below_parts rb).1 (below_parts xb).1 (by
          rw [rv, HVal.out.1, HN.out]
          obtain ⟨X, hX'⟩ : ∃ X : Nat, val 18446744073709551616 xs = (X : Int) := ⟨(val 18446744073709551616 xs).toNat, by have := val_nonneg (B := 18446744073709551616) (by decide) xd; omega⟩
          have hlt := (below_parts xb).2
          rw [HN.out, HPr.out.2, hX'] at hlt
          have h5 : 5 ≤ p := by
            have h3 := HC3.out
            have he := HPr.out.2
            rcases Nat.lt_or_ge p 5 with h | h
            · exfalso
              have h4 : p = 4 := by omega
              subst h4
              exact HPr.out.1.2 2 (by omega) (by omega) ⟨2, rfl⟩
            · exact h
          have hp1 := HIp.out
          rw [HPr.out.2] at hp1 ⊢
          rw [hX']
          exact undoZ HPr.out.1 h5 (by omega) hp1)
        subst hxs
        replace hX := hX.below hb14
        have hB14 := hB13.trans (hb14.mono hB13.size)
        clear hB13 hb14 hRr rv hU hRA hI
        go_wp2_with fail
        refine (same_any _ _ _ _ _ _ _ _ _ hR hX).mono ?_
        rintro e v15 ⟨rfl, hb15⟩
        rw [sameB_self]
        have hB15 := hB14.trans (hb15.mono hB14.size)
        clear hB14 hb15
        go_wp2_with fail
        go_ret
        exact ⟨by simp, hB15⟩
      · obtain ⟨rfl, rfl⟩ := hIr
        go_wp2_with fail
        go_ret
        exact ⟨by simp, hB13⟩

set_option maxRecDepth 100000 in
theorem lifted (os : Os) (started : os.Started) (H : Type) (enc : TypeId × Value → H) :
    ReturnsInHanded {} Try.checked os 4 .any (Rows.topPowersSpec.pre6 enc Try.prog Try.f4 Rows.topPowersRow.domain false) (Rows.topPowersSpec.post enc Try.prog Try.f4 false true false false) := by
  refine returnsInHanded_of_change (C := Try.checked) own started (by kernel_rfl) Try.func4
    (ChangeSpec.witness6 (enc := enc) (C := Try.checked) false ⟨#[], #[.int .u64 0, .agg #[.slice none 0 0, .slice none 0 0, .slice none 0 0]], []⟩ 8 (by kernel_rfl) (by kernel_rfl) (by kernel_rfl) (by kernel_rfl)) ?_
  intro W base args ds gs before hval0 hW hcnd _
  have hval : ∀ (j : Nat) t v, Try.f4.params[j]? = some t → args[j]? = some v → Value.okWide Try.prog W .any base t v := hval0
  have hW' := hW
  obtain ⟨p, q, hA0, hV, rfl, hfz, hnd⟩ := hW
  have hA : DataW.TrodAll enc Try.prog W 0 (fun _ => true) true Try.f4.params.toList args.toList ds p := hA0
  rw [Try.params4] at hA hval
  obtain ⟨v0, vs0, d0, ds0, p0, q0, hargs, rfl, rfl, h0, r0⟩ := trodAll_cons hA
  obtain ⟨v1, vs1, d1, ds1, p1, q1, rfl, rfl, rfl, h1, r1⟩ := trodAll_cons r0
  obtain ⟨rfl, rfl, rfl⟩ := trodAll_nil r1
  obtain rfl : args = #[v0, v1] := by cases args; simp_all
  obtain ⟨rfl, rfl⟩ := trodVars_none hV
  have k0 := h0
  have lt0 : ∀ x ∈ p0, x.block < W.heap.size := by obtain ⟨m, hm⟩ := k0; exact DataW.trod_lt m _ _ _ hm
  obtain ⟨x0, hv0, -, -, i0⟩ := open_int Try.underlying30 (hval 0 30 v0 rfl rfl) h0
  subst hv0
  have k1 := h1
  have lt1 : ∀ x ∈ p1, x.block < W.heap.size := by obtain ⟨m, hm⟩ := k1; exact DataW.trod_lt m _ _ _ hm
  obtain ⟨a0, len0, cap0, z0, a1, len1, cap1, z1, a2, len2, cap2, z2, hv1, w0, w1, w2⟩ := open_arr3 (hval 1 32 v1 rfl rfl) h1
  subst hv1
  clear hA0 hval0
  refine (walk x0 a0 len0 cap0 z0 a1 len1 cap1 z1 a2 len2 cap2 z2 W i0 w0 w1 w2).mono fun e W' ⟨he, bel⟩ => ?_
  subst he
  exact ⟨_, rfl, _, _, _, [], _, [], hW', trodAll_mk1 (shut_bool Try.underlying4 _), (trodAll_cons_mk (Below.trod laidOut (by kernel_rfl) (of_decide_eq_true (by kernel_rfl)) k0 bel lt0) (trodAll_cons_mk (Below.trod laidOut (by kernel_rfl) (of_decide_eq_true (by kernel_rfl)) k1 bel lt1) trodAll_mk0)), rfl, bel.frame _, fun h => by cases h⟩

theorem over : Rows.topPowersRow.holds Try.pinned (OpenSpec.ofChange Rows.topPowersSpec) :=
  OpenClaim.holds_of_wide 4 Try.f4 rfl rfl rfl rfl rfl rfl rfl ⟨rfl, rfl, rfl, rfl, rfl⟩ rfl rfl rfl rfl rfl (by kernel_rfl) Try.func4 (by kernel_rfl)
    (of_decide_eq_true (by kernel_rfl)) (by unfold Func.isWrapper; first | (rw [if_pos (by decide +kernel)]; kernel_rfl) | (rw [if_neg (by decide +kernel)]; exact ⟨rfl, rfl⟩))
    (fun os started H enc _ => lifted os started H enc)

theorem proved : Rows.TopPowersSaid := over
end Go.Proofs.Ytfafbggijhghcab.topPowers
namespace Go.Proofs.Ytfafbggijhghcab
theorem topPowers_holds : Rows.TopPowersSaid := topPowers.proved
#print axioms topPowers_holds
end Go.Proofs.Ytfafbggijhghcab

/-
  Contracts of the document's May, half, Encode, Decode and power (fixenc).
-/
import Derived.Test.YtambpcgdaogojaaF7Ans
import Derived.Test.YtambpcgdaogojaaRefMovesA
import Derived.Test.YtambpcgdaogojaaRefA
import Derived.Test.YtambpcgdaogojaaNatA
import Derived.Test.YtambpcgdaogojaaModA
namespace Go.Proofs.Ytambpcgdaogojaa
open Go.RowKit

set_option maxHeartbeats 800000 in
theorem r7may_any (a : Option Addr) (la ca : Nat) (ns : List Int) (w : World) (h : Nums w a la ca ns) :
    Calls Try.prog 27 #[.slice a la ca] w fun e w' => e = .returned (.bool (modB ns)) ∧ Below w.heap.size w w' := by
  have hl := h.hlen
  have HR := (show Hid _ from refRight_any _ _ _ _ _ h)
  cases hr : rightB ns with
  | false =>
    rw [hr] at HR
    have HE : Hid (modB ns = false) := by show _ = _; simp [modB, hr]
    clear h hl
    go_enter Try.func27, Try.ntmps27
    go_wp2_with fail
    refine Calls.mono HR.out ?_
    rintro e w1 ⟨rfl, rfl⟩
    clear HR
    go_wp2
    go_ret
    exact ⟨ret_bool HE.out.symm, Below.refl _ _⟩
  | true =>
    rw [hr] at HR
    by_cases h8 : la ≤ 8
    · have hn := IsN.self h.digs hr
      have HL : Hid (ns.length = la) := hl
      have h8i : (la : Int) ≤ 8 := by omega
      clear hl
      go_enter Try.func27, Try.ntmps27
      go_wp2_with fail
      refine Calls.mono HR.out ?_
      rintro e w1 ⟨rfl, rfl⟩
      clear HR
      go_wp2_with fail
      refine (refOf_any 3 _ (by omega)).mono ?_
      rintro e w2 ⟨oa, ol, oc, rfl, hO, hb2⟩
      have HC := (show Hid _ from refCmp_any _ _ _ _ _ _ _ _ _ (h.below hb2) hO)
      rw [cmpN_nat hn three_isN] at HC
      have HE : Hid (decide ((0 : Int) ≤ cmpZ (nv ns : Int) ((3 : Nat) : Int)) = modB ns) := by
        show _ = _
        unfold modB
        rw [hr, decide_eq_true (show ns.length ≤ 8 by rw [HL.out]; exact h8), Bool.true_and, Bool.true_and, decide_eq_decide]
        have := cmpZ_lt0 (x := (nv ns : Int)) (y := ((3 : Nat) : Int))
        omega
      obtain ⟨q, hq⟩ : ∃ q, q = cmpZ (nv ns : Int) ((3 : Nat) : Int) := ⟨_, rfl⟩
      rw [← hq] at HC HE
      clear h hO hn hq HL
      go_wp2_with fail
      refine Calls.mono HC.out ?_
      rintro e w3 ⟨rfl, hb3⟩
      have hB3 := hb2.trans (hb3.mono hb2.size)
      clear HC hb2 hb3
      go_wp2
      go_ret
      exact ⟨ret_bool HE.out, hB3⟩
    · have d8 : decide ((la : Int) ≤ 8) = false := decide_eq_false (by omega)
      have HE : Hid (modB ns = false) := by
        show _ = _
        unfold modB
        rw [decide_eq_false (show ¬ ns.length ≤ 8 by omega), Bool.false_and, Bool.and_false]
      clear h hl
      go_enter Try.func27, Try.ntmps27
      go_wp2_with fail
      refine Calls.mono HR.out ?_
      rintro e w1 ⟨rfl, rfl⟩
      clear HR
      go_wp2
      go_ret
      exact ⟨ret_bool HE.out.symm, Below.refl _ _⟩

set_option maxHeartbeats 800000 in
theorem r7half_any (a : Option Addr) (la ca : Nat) (ns : List Int) (n : Nat) (w : World) (h : Nums w a la ca ns) (hn : IsN ns n) (h1 : 1 ≤ n) :
    Calls Try.prog 30 #[.slice a la ca] w fun e w' => TellsN (hlf n) w e w' := by
  go_enter Try.func30, Try.ntmps30
  go_wp2_with fail
  refine (refOf_any 1 _ (by omega)).mono ?_
  rintro e w1 ⟨oa, ol, oc, rfl, hO, hb1⟩
  have k := h.below hb1
  clear h
  go_wp2_with fail
  refine (refSub_any _ _ _ _ _ _ _ _ _ k hO).mono ?_
  rintro e w2 ⟨sa, sl, sc, ss, se, rfl, hS, hR, hb2⟩
  have hs := (sub_isN hn one_isN h1 hR).1
  have hB2 := hb1.trans (hb2.mono hb1.size)
  clear k hO hb1 hb2 hR
  go_wp2_with fail
  refine (refShr_any _ _ _ _ 1 _ hS).mono ?_
  rintro e w3 ⟨ra, rl, rc, rs, re, rfl, hN, hR, hb3⟩
  have hB3 := hB2.trans (hb3.mono hB2.size)
  have HI : Hid (IsN rs (hlf n)) := by
    show IsN _ _
    unfold ResShr at hR
    rw [hs.2.1, if_pos (by decide), hs.2.2] at hR
    obtain ⟨_, d1, d2, d3, d4⟩ := hR
    refine ⟨d1, right_mk d3 d2, d4.trans ?_⟩
    unfold hlf
    have e : ((2 : Int) ^ Int.toNat 1) = 2 := by decide
    rw [e]
    omega
  clear hR hs hS hB2 hb3 hn
  go_wp2
  go_ret
  exact ⟨ra, rl, rc, rs, rfl, hN, HI.out, hB3⟩

set_option maxHeartbeats 800000 in
theorem r7power_any (s : Int) (w : World) (hs : 0 ≤ s ∧ s ≤ 62) :
    Calls Try.prog 40 #[.int .i64 s] w fun e w' => TellsW (2 ^ s.toNat) w e w' := by
  have hB := (Below.refl w.heap.size w).alloc (Nat.le_refl _) (.cells #[.bool false, .slice none 0 0] 25)
  have HS : Hid (0 ≤ s ∧ s ≤ 62) := hs
  clear hs
  go_enter Try.func40, Try.ntmps40
  go_wp2_with fail
  refine (refOf_any 1 _ (by omega)).mono ?_
  rintro e w1 ⟨oa, ol, oc, rfl, hO, hb1⟩
  go_wp2_with fail
  refine (refShl_any _ _ _ _ s _ hO).mono ?_
  rintro e w2 ⟨pa, pl, pc, ps, pe, rfl, hP, hR, hb2⟩
  have hp : IsN ps (2 ^ s.toNat) := by
    obtain ⟨s0, s1⟩ := HS.out
    unfold ResShl at hR
    rw [one_isN.2.1, decide_eq_true s0, if_pos (by rfl), if_neg (by decide), if_neg (by omega), one_isN.2.2] at hR
    have e : ((1 : Nat) : Int) * 2 ^ s.toNat = ((2 ^ s.toNat : Nat) : Int) := by rw [Int.natCast_pow]; simp
    rw [e] at hR
    refine (IsN.res hR ?_).1
    have h1 : 2 ^ s.toNat ≤ 2 ^ 62 := Nat.pow_le_pow_right (by omega) (by omega)
    have h2 : ((2 ^ 62 : Nat) : Int) < 18446744073709551616 ^ 64 := by decide
    omega
  have hb12 := hb1.trans (hb2.mono hb1.size)
  clear hO hR hb1 hb2
  go_wp2_with fail
  refine (refFrom_any false _ _ _ _ _ hP).mono ?_
  rintro e w3 ⟨fa, fl, fc, rfl, hF, hb3⟩
  have hb13 := hb12.trans (hb3.mono hb12.size)
  obtain ⟨⟨c0, c1⟩, f0, f1⟩ := held2 hb13
  have hn2 := hF.put2 c0 c1 (.bool (fromN false ps)) (.slice fa fl fc)
  have hBB := ((hB.trans (hb13.mono hB.size)).setCell (p := ⟨w.heap.size, 0, none⟩) (Nat.le_refl _) (.bool (fromN false ps))).setCell (p := ⟨w.heap.size, 1, none⟩) (Nat.le_refl _) (.slice fa fl fc)
  have HW : Hid (IsW (fromN false ps) (fromL ps) (2 ^ s.toNat)) := by
    have := IsW.from hp false
    show IsW _ _ _
    simpa using this
  obtain ⟨q, hq⟩ : ∃ q, q = fromN false ps := ⟨_, rfl⟩
  rw [← hq] at hn2 hBB HW
  rw [← hq]
  clear hF hP hp hb12 hb3 hb13 hB hq HS
  go_wp2_with fail
  exact bodyPost_ret (v := .agg #[.bool q, .slice fa fl fc]) (by simp [results, Try.results40, go_sem, c0, c1]) rfl ⟨q, fa, fl, fc, _, rfl, hn2, HW.out, hBB⟩

set_option maxRecDepth 20000 in
set_option maxHeartbeats 3200000 in
theorem r7encode_any (m : Bool) (a b : Option Addr) (la ca lb cb : Nat) (ns zs : List Int) (w : World) (h : Nums w a la ca ns) (h' : Nums w b lb cb zs) :
    Calls Try.prog 12 #[.slice a la ca, .agg #[.bool m, .slice b lb cb]] w fun e w' => TripT (codF ns m zs) (codV (nv ns) (iv m zs)) w e w' := by
  have hV := (Below.refl w.heap.size w).alloc (Nat.le_refl _) (.cells #[.bool m, .slice b lb cb] 25)
  have c0 : (w.alloc (.cells #[.bool m, .slice b lb cb] 25)).cell? ⟨w.heap.size, 0, none⟩ = some (.bool m) := by simp
  have c1 : (w.alloc (.cells #[.bool m, .slice b lb cb] 25)).cell? ⟨w.heap.size, 1, none⟩ = some (.slice b lb cb) := by simp
  have k := h.below hV
  have k' := h'.below hV
  clear h h'
  obtain ⟨x, hx⟩ : ∃ x, x = iv m zs := ⟨_, rfl⟩
  rw [← hx]
  go_enter Try.func12, Try.ntmps12
  go_wp2_with fail
  generalize w.alloc (.cells #[.bool m, .slice b lb cb] 25) = V at *
  refine (r7may_any _ _ _ _ _ k).mono ?_
  rintro e w1 ⟨rfl, hb1⟩
  have hB1 := hV.trans (hb1.mono hV.size)
  have m1 := k.below hb1
  have m1' := k'.below hb1
  replace c0 := bkeep hb1 c0 rfl
  replace c1 := bkeep hb1 c1 rfl
  clear k k' hV hb1
  go_wp2_with fail
  refine (refIRight_any _ _ _ _ _ _ m1').mono ?_
  rintro e w2 ⟨rfl, hb2⟩
  have hB2 := hB1.trans (hb2.mono hB1.size)
  have o := m1.below hb2
  have o' := m1'.below hb2
  replace c0 := bkeep hb2 c0 rfl
  replace c1 := bkeep hb2 c1 rfl
  clear m1 m1' hB1 hb2
  cases hm : modB ns with
  | false =>
    have HF : Hid (Told (codF ns m zs) (codV (nv ns) x) [] 1) := Told.bad (by unfold codF; rw [hm]; rfl)
    clear o o' c0 c1
    go_wp2
    go_ret2
    exact ⟨none, 0, 0, [], 1, rfl, Nums.nil _, HF.out, hB2⟩
  | true =>
  cases hr : rightI m zs with
  | false =>
    have HF : Hid (Told (codF ns m zs) (codV (nv ns) x) [] 1) := Told.bad (by unfold codF; rw [hm, hr]; rfl)
    clear o o' c0 c1
    go_wp2
    go_ret2
    exact ⟨none, 0, 0, [], 1, rfl, Nums.nil _, HF.out, hB2⟩
  | true =>
    have hW := IsW.self o'.digs hr
    have hmag := hW.mag
    have hsg := hW.sign
    obtain ⟨rn, n8, n3⟩ := (modB_iff ns).1 hm
    have hn := IsN.self o.digs rn
    have hcod := cod_true hm hr
    have hl64 : lb ≤ 64 := by rw [← o'.hlen]; exact right_len hmag.2.1
    rw [← hx] at hmag hsg hcod
    have HSg : Hid (m = decide (x < 0)) := hsg
    have HCod : Hid (codF ns m zs = if x.natAbs ≤ hlf (nv ns) then none else some 12) := hcod
    clear hx hsg hcod hW
    obtain ⟨V4, hV4⟩ : ∃ V4, V4 = w2 := ⟨_, rfl⟩
    subst hV4
    have HHf : Hid (∀ wx, Below V4.heap.size V4 wx → Calls Try.prog 30 #[.slice a la ca] wx fun e w' => ∃ ha hl hc hs, e = .returned (.slice ha hl hc) ∧ (Nums w' ha hl hc hs ∧ IsN hs (hlf (nv ns)) ∧ Below V4.heap.size V4 w') ∧ w'.cell? ⟨w.heap.size, 1, none⟩ = some (.slice b lb cb)) := by
      intro wx hbx
      refine (r7half_any _ _ _ _ _ wx (o.below hbx) hn (by omega)).mono ?_
      rintro e w' ⟨ha, hl, hc, hs, rfl, hN, hI, hb⟩
      have hb' := hbx.trans (hb.mono hbx.size)
      exact ⟨ha, hl, hc, hs, rfl, ⟨hN, hI, hb'⟩, bkeep hb' c1 rfl⟩
    have HCm : Hid (∀ wx ha hl hc hs, Nums wx ha hl hc hs → IsN hs (hlf (nv ns)) → Below V4.heap.size V4 wx → Calls Try.prog 29 #[.slice b lb cb, .slice ha hl hc] wx fun e w' => e = .returned (.int .i64 (cmpZ (x.natAbs : Int) (hlf (nv ns) : Int))) ∧ Below V4.heap.size V4 w') := by
      intro wx ha hl hc hs hN hI hbx
      refine (refCmp_any _ _ _ _ _ _ _ _ _ (o'.below hbx) hN).mono ?_
      rintro e w' ⟨rfl, hb⟩
      exact ⟨by rw [cmpN_nat hmag hI], hbx.trans (hb.mono hbx.size)⟩
    obtain ⟨q, hq⟩ : ∃ q, q = cmpZ (x.natAbs : Int) (hlf (nv ns) : Int) := ⟨_, rfl⟩
    rw [← hq] at HCm
    have HQ : Hid (q = cmpZ (x.natAbs : Int) (hlf (nv ns) : Int)) := hq
    clear hq
    obtain ⟨tb, htb⟩ : ∃ tb, tb = decide (0 < q) := ⟨_, rfl⟩
    have HTb : Hid (tb = decide (0 < q)) := htb
    clear htb
    go_upto_region 5 with fail
    go_cut [23] (fun v wx => v = .bool tb ∧ Below V4.heap.size V4 wx)
    case first =>
      clear o o' hB2 hmag hn HCod HQ HSg
      go_region_with (first
        | (go_at_call 30; refine (HHf.out _ ?_).mono ?_; (exact ⟨rfl, rfl, rfl, Nat.le_refl _, fun _ _ => rfl⟩); rintro e w3 ⟨ha, hl, hc, hs, rfl, hH, k3⟩)
        | (go_at_call 29; refine (HCm.out _ _ _ _ hs ?_ ?_ ?_).mono ?_; (exact hH.1.alike (fun _ => rfl)); (exact hH.2.1); (exact ⟨hH.2.2.os, hH.2.2.tape, hH.2.2.output, hH.2.2.size, hH.2.2.block⟩); rintro e w4 ⟨rfl, hb4⟩))
      all_goals
        clear HHf HCm hH
        go_wp2_with fail
        go_meet
        case rel => exact ⟨by rw [HTb.out], ⟨hb4.os, hb4.tape, hb4.output, hb4.size, hb4.block⟩⟩
    case rest =>
      obtain ⟨rfl, hbc⟩ := hcut
      have hBc := hB2.trans (hbc.mono hB2.size)
      have p := o.below hbc
      have p' := o'.below hbc
      replace c0 := bkeep hbc c0 rfl
      replace c1 := bkeep hbc c1 rfl
      have hqi := cmpZ_le0 (x := (x.natAbs : Int)) (y := (hlf (nv ns) : Int))
      rw [← HQ.out] at hqi
      have hcod := HCod.out
      have hsg := HSg.out
      clear HHf HCm o o' hB2 hbc HQ HCod HSg
      by_cases hle : x.natAbs ≤ hlf (nv ns)
      · obtain rfl : tb = false := HTb.out.trans (decide_eq_false (by omega))
        rw [if_pos hle] at hcod
        have HF : Hid (codF ns m zs = none) := hcod
        clear hqi hcod
        cases m with
        | false =>
          have hx0 : 0 ≤ x := by simpa using hsg
          have HV : Hid (IsN zs (codV (nv ns) x)) := by
            show IsN _ _
            unfold codV
            rw [if_neg (by omega), show x.toNat = x.natAbs by omega]
            exact hmag
          clear hsg hmag hn
          have hown := Own.empty wc
          have hb0 := (Below.refl wc.heap.size wc).alloc (Nat.le_refl _) (.cells #[] 52)
          have h1 := p'.below hb0
          have c1' := bkeep hb0 c1 rfl
          go_wp2_with (at_builtin; refine wpList_appM _ rfl _ _ 23 rfl Try.underlying23 wc.heap.size _ [] rfl hown b lb cb zs rfl h1 ?c1 wc ?c2 hb0 ?c3)
          case c1 => simp; omega
          case c2 => simp
          case c3 =>
            intro v' w5 hown1 hb5
            obtain ⟨a1, n1, cap1, rfl, hn1, -⟩ := hown1.fresh p'.digs
            have hB5 := hBc.trans (hb5.mono hBc.size)
            have HT : Hid (Told (codF ns false zs) (codV (nv ns) x) ([] ++ zs) 0) := Told.good HF.out HV.out
            clear hown1 hown h1 hb0 hb5 hBc p p' HF HV
            go_wp2
            go_ret2
            exact ⟨a1, n1, cap1, _, 0, rfl, hn1, HT.out, hB5⟩
        | true =>
          have hx0 : x < 0 := by simpa using hsg
          have hlt : x.natAbs ≤ nv ns := by unfold hlf at hle; omega
          clear hsg
          go_wp2_with fail
          refine (refSub_any _ _ _ _ _ _ _ _ _ p p').mono ?_
          rintro e w5 ⟨sa, sl, sc, ss, se, rfl, hS, hR, hb5⟩
          obtain ⟨hs, rfl⟩ := sub_isN hn hmag hlt hR
          have hB5 := hBc.trans (hb5.mono hBc.size)
          have HT : Hid (Told (codF ns true zs) (codV (nv ns) x) ss 0) := by
            refine Told.good HF.out ?_
            unfold codV
            rw [if_pos hx0, show ((nv ns : Int) + x).toNat = nv ns - x.natAbs by omega]
            exact hs
          clear hR hs hmag hn p p' hb5 hBc HF
          go_wp2
          go_ret2
          exact ⟨sa, sl, sc, ss, 0, rfl, hS, HT.out, hB5⟩
      · obtain rfl : tb = true := HTb.out.trans (decide_eq_true (by omega))
        rw [if_neg hle] at hcod
        have HF : Hid (Told (codF ns m zs) (codV (nv ns) x) [] 12) := Told.bad hcod
        clear hcod hqi p p' c0 c1 hn hmag hsg
        go_wp2
        go_ret2
        exact ⟨none, 0, 0, [], 12, rfl, Nums.nil _, HF.out, hBc⟩

set_option maxRecDepth 20000 in
set_option maxHeartbeats 3200000 in
theorem r7decode_any (a b : Option Addr) (la ca lb cb : Nat) (ns vs : List Int) (w : World) (h : Nums w a la ca ns) (h' : Nums w b lb cb vs) :
    Calls Try.prog 15 #[.slice a la ca, .slice b lb cb] w fun e w' => TripW (dcF ns vs) (dcV (nv ns) (nv vs)) w e w' := by
  have hV := (Below.refl w.heap.size w).alloc (Nat.le_refl _) (.cells #[.bool false, .slice none 0 0] 25)
  have k := h.below hV
  have k' := h'.below hV
  clear h h'
  obtain ⟨X, hX⟩ : ∃ X, X = dcV (nv ns) (nv vs) := ⟨_, rfl⟩
  rw [← hX]
  have HX : Hid (X = dcV (nv ns) (nv vs)) := hX
  clear hX
  go_enter Try.func15, Try.ntmps15
  go_wp2_with fail
  refine (r7may_any _ _ _ _ _ k).mono ?_
  rintro e w1 ⟨rfl, hb1⟩
  have m1 := k.below hb1
  have m1' := k'.below hb1
  clear k k'
  cases hm : modB ns with
  | false =>
    have HF : Hid (ToldW (dcF ns vs) X false [] 1) := ToldW.bad (by unfold dcF; rw [hm]; rfl)
    obtain ⟨⟨c0, c1⟩, f0, f1⟩ := held2 hb1
    have hBB := ((hV.trans (hb1.mono hV.size)).setCell (p := ⟨w.heap.size, 0, none⟩) (Nat.le_refl _) (.bool false)).setCell (p := ⟨w.heap.size, 1, none⟩) (Nat.le_refl _) (.slice none 0 0)
    clear m1 m1' hV hb1
    go_wp2_with fail
    exact bodyPost_ret (v := .tuple #[.agg #[.bool false, .slice none 0 0], .int .i64 1]) (by simp [results, Try.results15, go_sem, c0, c1]) rfl ⟨false, none, 0, 0, [], 1, rfl, Nums.nil _, HF.out, hBB⟩
  | true =>
    obtain ⟨rn, n8, n3⟩ := (modB_iff ns).1 hm
    have hn := IsN.self m1.digs rn
    have HR := (show Hid _ from refRight_any _ _ _ _ _ m1')
    cases hr : rightB vs with
    | false =>
      rw [hr] at HR
      have HF : Hid (ToldW (dcF ns vs) X false [] 10) := ToldW.bad (by unfold dcF; rw [hm, hr]; rfl)
      obtain ⟨⟨c0, c1⟩, f0, f1⟩ := held2 hb1
      have hBB := ((hV.trans (hb1.mono hV.size)).setCell (p := ⟨w.heap.size, 0, none⟩) (Nat.le_refl _) (.bool false)).setCell (p := ⟨w.heap.size, 1, none⟩) (Nat.le_refl _) (.slice none 0 0)
      clear m1 m1' hV hb1 hn
      go_wp2_with fail
      refine Calls.mono HR.out ?_
      rintro e w2 ⟨rfl, rfl⟩
      clear HR
      go_wp2_with fail
      exact bodyPost_ret (v := .tuple #[.agg #[.bool false, .slice none 0 0], .int .i64 10]) (by simp [results, Try.results15, go_sem, c0, c1]) rfl ⟨false, none, 0, 0, [], 10, rfl, Nums.nil _, HF.out, hBB⟩
    | true =>
      rw [hr] at HR
      have hv := IsN.self m1'.digs hr
      have HC := (show Hid _ from refCmp_any _ _ _ _ _ _ _ _ _ m1' m1)
      rw [cmpN_nat hv hn] at HC
      have hqi := cmpZ_lt0 (x := (nv vs : Int)) (y := (nv ns : Int))
      obtain ⟨q, hq⟩ : ∃ q, q = cmpZ (nv vs : Int) (nv ns : Int) := ⟨_, rfl⟩
      rw [← hq] at HC hqi
      clear hq
      by_cases hlt : nv vs < nv ns
      · have dq : decide ((0 : Int) ≤ q) = false := decide_eq_false (by omega)
        have HF : Hid (dcF ns vs = none) := by show _ = _; unfold dcF; rw [hm, hr, decide_eq_true hlt]; rfl
        clear hqi
        go_wp2_with fail
        refine Calls.mono HR.out ?_
        rintro e w2 ⟨rfl, rfl⟩
        clear HR
        go_wp2_with fail
        refine Calls.mono HC.out ?_
        rintro e w3 ⟨rfl, hb3⟩
        have hb13 := hb1.trans (hb3.mono hb1.size)
        have o := m1.below hb3
        have o' := m1'.below hb3
        clear HC m1 m1' hb1 hb3
        go_wp2_with fail
        refine (r7half_any _ _ _ _ _ _ o hn (by omega)).mono ?_
        rintro e w4 ⟨ha, hl, hc, hs, rfl, hH, hh, hb4⟩
        have hb14 := hb13.trans (hb4.mono hb13.size)
        have p := o.below hb4
        have p' := o'.below hb4
        have HC2 := (show Hid _ from refCmp_any _ _ _ _ _ _ _ _ _ p' hH)
        rw [cmpN_nat hv hh] at HC2
        have hui := cmpZ_le0 (x := (nv vs : Int)) (y := (hlf (nv ns) : Int))
        obtain ⟨u, hu⟩ : ∃ u, u = cmpZ (nv vs : Int) (hlf (nv ns) : Int) := ⟨_, rfl⟩
        rw [← hu] at HC2 hui
        clear o o' hb13 hb4 hu hH hh
        by_cases hle : nv vs ≤ hlf (nv ns)
        · have hu0 : u ≤ 0 := hui.2 (by omega)
          have hx : dcV (nv ns) (nv vs) = (nv vs : Int) := by unfold dcV; rw [if_pos hle]
          have HXv : Hid (X = (nv vs : Int)) := HX.out.trans hx
          clear hui hx
          go_wp2_with fail
          refine Calls.mono HC2.out ?_
          rintro e w5 ⟨rfl, hb5⟩
          have hb15 := hb14.trans (hb5.mono hb14.size)
          have r' := p'.below hb5
          clear HC2 p p' hb14 hb5
          go_wp2_with fail
          refine (refFrom_any false _ _ _ _ _ r').mono ?_
          rintro e w6 ⟨fa, fl, fc, rfl, hFr, hb6⟩
          have hb16 := hb15.trans (hb6.mono hb15.size)
          obtain ⟨⟨c0, c1⟩, f0, f1⟩ := held2 hb16
          have hn2 := hFr.put2 c0 c1 (.bool (fromN false vs)) (.slice fa fl fc)
          have hBB := ((hV.trans (hb16.mono hV.size)).setCell (p := ⟨w.heap.size, 0, none⟩) (Nat.le_refl _) (.bool (fromN false vs))).setCell (p := ⟨w.heap.size, 1, none⟩) (Nat.le_refl _) (.slice fa fl fc)
          have HW : Hid (ToldW (dcF ns vs) X (fromN false vs) (fromL vs) 0) := by
            refine ToldW.good HF.out ?_
            rw [HXv.out]
            have := IsW.from hv false
            simpa using this
          obtain ⟨t, ht⟩ : ∃ t, t = fromN false vs := ⟨_, rfl⟩
          rw [← ht] at hn2 hBB HW
          rw [← ht]
          clear hFr hv hb15 hb6 hb16 hV ht HF r' hn
          go_wp2_with fail
          exact bodyPost_ret (v := .tuple #[.agg #[.bool t, .slice fa fl fc], .int .i64 0]) (by simp [results, Try.results15, go_sem, c0, c1]) rfl ⟨t, fa, fl, fc, _, 0, rfl, hn2, HW.out, hBB⟩
        · have du : decide (u ≤ 0) = false := decide_eq_false (fun e => hle (by have := hui.1 e; omega))
          have hx : dcV (nv ns) (nv vs) = -((nv ns - nv vs : Nat) : Int) := by unfold dcV; rw [if_neg hle]; omega
          have HXv : Hid (X = -((nv ns - nv vs : Nat) : Int)) := HX.out.trans hx
          clear hui hx
          go_wp2_with fail
          refine Calls.mono HC2.out ?_
          rintro e w5 ⟨rfl, hb5⟩
          have hb15 := hb14.trans (hb5.mono hb14.size)
          have r := p.below hb5
          have r' := p'.below hb5
          clear HC2 p p' hb14 hb5
          go_wp2_with fail
          refine (refSub_any _ _ _ _ _ _ _ _ _ r r').mono ?_
          rintro e w6 ⟨sa, sl, sc, ss, se, rfl, hS, hRs, hb6⟩
          obtain ⟨hs, rfl⟩ := sub_isN hn hv (by omega) hRs
          have hb16 := hb15.trans (hb6.mono hb15.size)
          clear hRs hb15 hb6 r r' hv hn
          go_wp2_with fail
          refine (refFrom_any true _ _ _ _ _ hS).mono ?_
          rintro e w7 ⟨fa, fl, fc, rfl, hFr, hb7⟩
          have hb17 := hb16.trans (hb7.mono hb16.size)
          obtain ⟨⟨c0, c1⟩, f0, f1⟩ := held2 hb17
          have hn2 := hFr.put2 c0 c1 (.bool (fromN true ss)) (.slice fa fl fc)
          have hBB := ((hV.trans (hb17.mono hV.size)).setCell (p := ⟨w.heap.size, 0, none⟩) (Nat.le_refl _) (.bool (fromN true ss))).setCell (p := ⟨w.heap.size, 1, none⟩) (Nat.le_refl _) (.slice fa fl fc)
          have HW : Hid (ToldW (dcF ns vs) X (fromN true ss) (fromL ss) 0) := by
            refine ToldW.good HF.out ?_
            rw [HXv.out]
            have := IsW.from hs true
            simpa using this
          obtain ⟨t, ht⟩ : ∃ t, t = fromN true ss := ⟨_, rfl⟩
          rw [← ht] at hn2 hBB HW
          rw [← ht]
          clear hFr hs hb16 hb7 hb17 hV ht HF hS
          go_wp2_with fail
          exact bodyPost_ret (v := .tuple #[.agg #[.bool t, .slice fa fl fc], .int .i64 0]) (by simp [results, Try.results15, go_sem, c0, c1]) rfl ⟨t, fa, fl, fc, _, 0, rfl, hn2, HW.out, hBB⟩
      · have dq : (0 : Int) ≤ q := by omega
        have HF : Hid (ToldW (dcF ns vs) X false [] 10) := ToldW.bad (by unfold dcF; rw [hm, hr, decide_eq_false hlt]; rfl)
        clear hqi
        go_wp2_with fail
        refine Calls.mono HR.out ?_
        rintro e w2 ⟨rfl, rfl⟩
        clear HR
        go_wp2_with fail
        refine Calls.mono HC.out ?_
        rintro e w3 ⟨rfl, hb3⟩
        have hb13 := hb1.trans (hb3.mono hb1.size)
        obtain ⟨⟨c0, c1⟩, f0, f1⟩ := held2 hb13
        have hBB := ((hV.trans (hb13.mono hV.size)).setCell (p := ⟨w.heap.size, 0, none⟩) (Nat.le_refl _) (.bool false)).setCell (p := ⟨w.heap.size, 1, none⟩) (Nat.le_refl _) (.slice none 0 0)
        clear HC m1 m1' hb1 hb3 hV hb13 hn hv
        go_wp2_with fail
        exact bodyPost_ret (v := .tuple #[.agg #[.bool false, .slice none 0 0], .int .i64 10]) (by simp [results, Try.results15, go_sem, c0, c1]) rfl ⟨false, none, 0, 0, [], 10, rfl, Nums.nil _, HF.out, hBB⟩
end Go.Proofs.Ytambpcgdaogojaa

/-
  Contracts of package fixenc's isModulus, modulusOf, encode and decode.
  Contracts of package fixenc's Encode and Decode, with ask.
-/
import Derived.Test.YtambpcgdaogojabGreatF7A
import Derived.Test.YtambpcgdaogojabGreatShift
import Derived.Test.YtambpcgdaogojabGreatModA
import Derived.Test.YtambpcgdaogojabGreatNatC
import Derived.Laws.EntriesVeiled
import Derived.Laws.NewBlocks
import Derived.Deep.RegionWith
import Derived.BigRegion
namespace Go.Proofs.YtambpcgdaogojabGreat
open Go.RowKit

set_option maxHeartbeats 800000 in
theorem ismod_any (a : Option Addr) (la ca : Nat) (ns : List Int) (w : World) (h : Nums w a la ca ns) :
    Calls Tryz.prog 39 #[.slice a la ca] w fun e w' => e = .returned (.bool (modB ns)) ∧ Below w.heap.size w w' := by
  have hl := h.hlen
  have HR := (show Hid _ from right_any _ _ _ _ _ h)
  cases hr : rightB ns with
  | false =>
    rw [hr] at HR
    have HE : Hid (modB ns = false) := by show _ = _; simp [modB, hr]
    clear h hl
    go_enter Tryz.func39, Tryz.ntmps39
    go_wp2_with fail
    refine Calls.mono HR.out ?_
    rintro e w1 ⟨rfl, rfl⟩
    clear HR
    go_wp2
    go_ret
    exact ⟨ret_bool HE.out.symm, Below.refl _ _⟩
  | true =>
    rw [hr] at HR
    by_cases h8 : la ≤ 8
    · have hn := IsN.self h.digs hr
      have HL : Hid (ns.length = la) := hl
      have h8i : (la : Int) ≤ 8 := by omega
      clear hl
      go_enter Tryz.func39, Tryz.ntmps39
      go_wp2_with fail
      refine Calls.mono HR.out ?_
      rintro e w1 ⟨rfl, rfl⟩
      clear HR
      go_wp2_with fail
      refine (of_any 3 _ (by omega)).mono ?_
      rintro e w2 ⟨oa, ol, oc, rfl, hO, hb2⟩
      have HC := (show Hid _ from cmp_any _ _ _ _ _ _ _ _ _ (h.below hb2) hO)
      rw [cmpN_nat hn three_isN] at HC
      have HE : Hid (decide ((0 : Int) ≤ cmpZ (nv ns : Int) ((3 : Nat) : Int)) = modB ns) := by
        show _ = _
        unfold modB
        rw [hr, decide_eq_true (show ns.length ≤ 8 by rw [HL.out]; exact h8), Bool.true_and, Bool.true_and, decide_eq_decide]
        have := cmpZ_lt0 (x := (nv ns : Int)) (y := ((3 : Nat) : Int))
        omega
      obtain ⟨q, hq⟩ : ∃ q, q = cmpZ (nv ns : Int) ((3 : Nat) : Int) := ⟨_, rfl⟩
      rw [← hq] at HC HE
      clear h hO hn hq HL
      go_wp2_with fail
      refine Calls.mono HC.out ?_
      rintro e w3 ⟨rfl, hb3⟩
      have hB3 := hb2.trans (hb3.mono hb2.size)
      clear HC hb2 hb3
      go_wp2
      go_ret
      exact ⟨ret_bool HE.out, hB3⟩
    · have d8 : decide ((la : Int) ≤ 8) = false := decide_eq_false (by omega)
      have HE : Hid (modB ns = false) := by
        show _ = _
        unfold modB
        rw [decide_eq_false (show ¬ ns.length ≤ 8 by omega), Bool.false_and, Bool.and_false]
      clear h hl
      go_enter Tryz.func39, Tryz.ntmps39
      go_wp2_with fail
      refine Calls.mono HR.out ?_
      rintro e w1 ⟨rfl, rfl⟩
      clear HR
      go_wp2
      go_ret
      exact ⟨ret_bool HE.out.symm, Below.refl _ _⟩

/-- What a call that tells a modulus with its half makes. -/
def ModT (a : Option Addr) (la ca n : Nat) (w : World) (e : Ending) (w' : World) : Prop := ∃ ha hl hc hs, e = .returned (.agg #[.slice a la ca, .slice ha hl hc]) ∧ Nums w' ha hl hc hs ∧ IsN hs (hlf n) ∧ Below w.heap.size w w'

/-- A store into two cells that hold no word: no word has turned. -/
theorem Nums.putN2 {w : World} {a : Option Addr} {n c g : Nat} {zs : List Int} (h : Nums w a n c zs) {x y : Value} (c0 : w.cell? ⟨g, 0, none⟩ = some x) (c1 : w.cell? ⟨g, 1, none⟩ = some y) (hx : ∀ z, x ≠ .int .u64 z) (hy : ∀ z, y ≠ .int .u64 z) (u v : Value) :
    Nums ((w.setCell ⟨g, 0, none⟩ u).setCell ⟨g, 1, none⟩ v) a n c zs := by
  refine (h.put c0 hx u).put (x := y) ?_ hy v
  rw [World.cell?_setCell_other]
  · exact c1
  · simp

set_option maxHeartbeats 800000 in
theorem modof_any (a : Option Addr) (la ca : Nat) (ns : List Int) (n : Nat) (w : World) (h : Nums w a la ca ns) (hn : IsN ns n) (h1 : 1 ≤ n) :
    Calls Tryz.prog 40 #[.slice a la ca] w fun e w' => ModT a la ca n w e w' := by
  have hV := (Below.refl w.heap.size w).alloc (Nat.le_refl _) (.cells #[.slice none 0 0, .slice none 0 0] 60)
  have h' := h.below hV
  clear h
  go_enter Tryz.func40, Tryz.ntmps40
  go_wp2_with fail
  refine (of_any 1 _ (by omega)).mono ?_
  rintro e w1 ⟨oa, ol, oc, rfl, hO, hb1⟩
  have k := h'.below hb1
  clear h'
  go_wp2_with fail
  refine (sub_any _ _ _ _ _ _ _ _ _ k hO).mono ?_
  rintro e w2 ⟨sa, sl, sc, ss, se, rfl, hS, hR, -, hb2⟩
  have hs := (sub_isN hn one_isN h1 hR).1
  have hB2 := hb1.trans (hb2.mono hb1.size)
  clear k hO hb1 hb2 hR
  go_wp2_with fail
  refine (shr_any _ _ _ _ 1 _ hS).mono ?_
  rintro e w3 ⟨ra, rl, rc, rs, re, rfl, hN, hR, -, hb3⟩
  have hB3 := hB2.trans (hb3.mono hB2.size)
  have HI : Hid (IsN rs (hlf n)) := by
    show IsN _ _
    unfold ResShr at hR
    rw [hs.2.1, if_pos (by decide), hs.2.2] at hR
    obtain ⟨_, d1, d2, d3, d4⟩ := hR
    refine ⟨d1, right_mk d3 d2, d4.trans ?_⟩
    unfold hlf
    have e : ((2 : Int) ^ Int.toNat 1) = 2 := by decide
    rw [e]
    omega
  obtain ⟨⟨c0, c1⟩, f0, f1⟩ := held2 hB3
  have hn2 := hN.putN2 c0 c1 (fun z => by simp) (fun z => by simp) (.slice a la ca) (.slice ra rl rc)
  have hBB := ((hV.trans (hB3.mono hV.size)).setCell (p := ⟨w.heap.size, 0, none⟩) (Nat.le_refl _) (.slice a la ca)).setCell (p := ⟨w.heap.size, 1, none⟩) (Nat.le_refl _) (.slice ra rl rc)
  clear hR hs hS hB2 hb3 hn hN hV hB3
  go_wp2_with fail
  exact bodyPost_ret (v := .agg #[.slice a la ca, .slice ra rl rc]) (by simp [results, Tryz.results40, go_sem, c0, c1]) rfl ⟨ra, rl, rc, rs, rfl, hn2, HI.out, hBB⟩

set_option maxRecDepth 20000 in
set_option maxHeartbeats 3200000 in
theorem mencode_any (m : Bool) (a ha b : Option Addr) (la ca hl hc lb cb : Nat) (ns hs zs : List Int) (w : World) (h : Nums w a la ca ns) (hH : Nums w ha hl hc hs) (h' : Nums w b lb cb zs) (hm : modB ns = true) (hh : IsN hs (hlf (nv ns))) :
    Calls Tryz.prog 47 #[.agg #[.slice a la ca, .slice ha hl hc], .agg #[.bool m, .slice b lb cb]] w fun e w' => TripT (codF ns m zs) (codV (nv ns) (iv m zs)) w e w' := by
  have hV := ((Below.refl w.heap.size w).alloc (Nat.le_refl _) (.cells #[.slice a la ca, .slice ha hl hc] 60)).alloc (by simp) (.cells #[.bool m, .slice b lb cb] 97)
  have k := h.below hV
  have kh := hH.below hV
  have k' := h'.below hV
  clear h hH h'
  obtain ⟨x, hx⟩ : ∃ x, x = iv m zs := ⟨_, rfl⟩
  rw [← hx]
  go_enter Tryz.func47, Tryz.ntmps47
  go_wp2_with fail
  refine (iright_any _ _ _ _ _ _ k').mono ?_
  rintro e w1 ⟨rfl, hb1⟩
  obtain ⟨⟨c0, c1⟩, ⟨d0, d1⟩, -, -⟩ := held22 hb1
  have hB1 := hV.trans (hb1.mono hV.size)
  replace k := k.below hb1
  replace kh := kh.below hb1
  replace k' := k'.below hb1
  clear hV hb1
  cases hr : rightI m zs with
  | false =>
    have HF : Hid (Told (codF ns m zs) (codV (nv ns) x) [] 1) := Told.bad (by unfold codF; rw [hm, hr]; rfl)
    clear k kh k' c0 c1 d0 d1 hx hh
    go_wp2
    go_ret2
    exact ⟨none, 0, 0, [], 1, rfl, Nums.nil _, HF.out, hB1⟩
  | true =>
    have hW := IsW.self k'.digs hr
    have hmag := hW.mag
    have hsg := hW.sign
    obtain ⟨rn, n8, n3⟩ := (modB_iff ns).1 hm
    have hn := IsN.self k.digs rn
    have hcod := cod_true hm hr
    have hl64 : lb ≤ 64 := by rw [← k'.hlen]; exact right_len hmag.2.1
    rw [← hx] at hmag hsg hcod
    have HSg : Hid (m = decide (x < 0)) := hsg
    have HC := (show Hid _ from cmp_any _ _ _ _ _ _ _ _ _ k' kh)
    rw [cmpN_nat hmag hh] at HC
    have hqi := cmpZ_le0 (x := (x.natAbs : Int)) (y := (hlf (nv ns) : Int))
    obtain ⟨q, hq⟩ : ∃ q, q = cmpZ (x.natAbs : Int) (hlf (nv ns) : Int) := ⟨_, rfl⟩
    rw [← hq] at HC hqi
    clear hx hsg hW hq
    by_cases hle : x.natAbs ≤ hlf (nv ns)
    · have dq : decide (0 < q) = false := decide_eq_false (by omega)
      rw [if_pos hle] at hcod
      have HF : Hid (codF ns m zs = none) := hcod
      clear hqi hcod
      go_wp2_with fail
      refine Calls.mono HC.out ?_
      rintro e w2 ⟨rfl, hb2⟩
      have hB2 := hB1.trans (hb2.mono hB1.size)
      replace k := k.below hb2
      replace k' := k'.below hb2
      replace c0 := bkeep hb2 c0 rfl
      replace d0 := bkeep hb2 d0 rfl
      replace d1 := bkeep hb2 d1 rfl
      have hsg := HSg.out
      clear HC HSg hB1 hb2 c1 kh hh
      cases m with
      | false =>
        have hx0 : 0 ≤ x := by simpa using hsg
        have HV : Hid (IsN zs (codV (nv ns) x)) := by
          show IsN _ _
          unfold codV
          rw [if_neg (by omega), show x.toNat = x.natAbs by omega]
          exact hmag
        clear hsg hmag hn
        go_wp2_with fail
        refine (clone_any _ _ _ _ _ k' (by omega)).mono ?_
        rintro e w3 ⟨a1, n1, cap1, rfl, hn1, -, hb3⟩
        have hB3 := hB2.trans (hb3.mono hB2.size)
        have HT : Hid (Told (codF ns false zs) (codV (nv ns) x) zs 0) := Told.good HF.out HV.out
        clear hb3 hB2 k k' HF HV c0 d0 d1
        go_wp2
        go_ret2
        exact ⟨a1, n1, cap1, _, 0, rfl, hn1, HT.out, hB3⟩
      | true =>
        have hx0 : x < 0 := by simpa using hsg
        have hlt : x.natAbs ≤ nv ns := by unfold hlf at hle; omega
        clear hsg
        go_wp2_with fail
        refine (sub_any _ _ _ _ _ _ _ _ _ k k').mono ?_
        rintro e w3 ⟨sa, sl, sc, ss, se, rfl, hS, hR, -, hb3⟩
        obtain ⟨hs, rfl⟩ := sub_isN hn hmag hlt hR
        have hB3 := hB2.trans (hb3.mono hB2.size)
        have HT : Hid (Told (codF ns true zs) (codV (nv ns) x) ss 0) := by
          refine Told.good HF.out ?_
          unfold codV
          rw [if_pos hx0, show ((nv ns : Int) + x).toNat = nv ns - x.natAbs by omega]
          exact hs
        clear hR hs hmag hn k k' hb3 hB2 HF c0 d0 d1
        go_wp2
        go_ret2
        exact ⟨sa, sl, sc, ss, 0, rfl, hS, HT.out, hB3⟩
    · have dq : (0 : Int) < q := by omega
      rw [if_neg hle] at hcod
      have HF : Hid (Told (codF ns m zs) (codV (nv ns) x) [] 12) := Told.bad hcod
      clear hcod hqi
      go_wp2_with fail
      refine Calls.mono HC.out ?_
      rintro e w2 ⟨rfl, hb2⟩
      have hB2 := hB1.trans (hb2.mono hB1.size)
      clear k k' kh c0 c1 d0 d1 hn hmag HSg HC hB1 hb2 hh
      go_wp2
      go_ret2
      exact ⟨none, 0, 0, [], 12, rfl, Nums.nil _, HF.out, hB2⟩

set_option maxRecDepth 20000 in
set_option maxHeartbeats 3200000 in
theorem mdecode_any (a ha b : Option Addr) (la ca hl hc lb cb : Nat) (ns hs vs : List Int) (w : World) (h : Nums w a la ca ns) (hH : Nums w ha hl hc hs) (h' : Nums w b lb cb vs) (hm : modB ns = true) (hh : IsN hs (hlf (nv ns))) :
    Calls Tryz.prog 64 #[.agg #[.slice a la ca, .slice ha hl hc], .slice b lb cb] w fun e w' => TripW (dcF ns vs) (dcV (nv ns) (nv vs)) w e w' := by
  have hV := ((Below.refl w.heap.size w).alloc (Nat.le_refl _) (.cells #[.slice a la ca, .slice ha hl hc] 60)).alloc (by simp) (.cells #[.bool false, .slice none 0 0] 97)
  have m1 := h.below hV
  have mh := hH.below hV
  have m1' := h'.below hV
  clear h hH h'
  obtain ⟨X, hX⟩ : ∃ X, X = dcV (nv ns) (nv vs) := ⟨_, rfl⟩
  rw [← hX]
  have HX : Hid (X = dcV (nv ns) (nv vs)) := hX
  clear hX
  obtain ⟨rn, n8, n3⟩ := (modB_iff ns).1 hm
  have hn := IsN.self m1.digs rn
  go_enter Tryz.func64, Tryz.ntmps64
  go_wp2_with fail
  refine (right_any _ _ _ _ _ m1').mono ?_
  rintro e w1 ⟨rfl, rfl⟩
  cases hr : rightB vs with
  | false =>
    have HF : Hid (ToldW (dcF ns vs) X false [] 10) := ToldW.bad (by unfold dcF; rw [hm, hr]; rfl)
    obtain ⟨-, ⟨c0, c1⟩, -, f0, f1⟩ := held22 (w := w) (x := .slice a la ca) (y := .slice ha hl hc) (x' := .bool false) (y' := .slice none 0 0) (t := 60) (t' := 97) (Below.refl _ _)
    have hBB := hV
    clear m1 mh m1' hV hn
    go_wp2_with fail
    exact bodyPost_ret (v := .tuple #[.agg #[.bool false, .slice none 0 0], .int .i64 10]) (by simp [results, Tryz.results64, go_sem, c0, c1]) rfl ⟨false, none, 0, 0, [], 10, rfl, Nums.nil _, HF.out, hBB⟩
  | true =>
    have hv := IsN.self m1'.digs hr
    have HC := (show Hid _ from cmp_any _ _ _ _ _ _ _ _ _ m1' m1)
    rw [cmpN_nat hv hn] at HC
    have hqi := cmpZ_lt0 (x := (nv vs : Int)) (y := (nv ns : Int))
    obtain ⟨q, hq⟩ : ∃ q, q = cmpZ (nv vs : Int) (nv ns : Int) := ⟨_, rfl⟩
    rw [← hq] at HC hqi
    clear hq
    by_cases hlt : nv vs < nv ns
    · have dq : decide ((0 : Int) ≤ q) = false := decide_eq_false (by omega)
      have HF : Hid (dcF ns vs = none) := by show _ = _; unfold dcF; rw [hm, hr, decide_eq_true hlt]; rfl
      clear hqi
      go_wp2_with fail
      refine Calls.mono HC.out ?_
      rintro e w3 ⟨rfl, hb3⟩
      obtain ⟨⟨c0, c1⟩, -⟩ := held22 hb3
      have p := m1.below hb3
      have ph := mh.below hb3
      have p' := m1'.below hb3
      have HC2 := (show Hid _ from cmp_any _ _ _ _ _ _ _ _ _ p' ph)
      rw [cmpN_nat hv hh] at HC2
      have hui := cmpZ_le0 (x := (nv vs : Int)) (y := (hlf (nv ns) : Int))
      obtain ⟨u, hu⟩ : ∃ u, u = cmpZ (nv vs : Int) (hlf (nv ns) : Int) := ⟨_, rfl⟩
      rw [← hu] at HC2 hui
      clear HC m1 mh m1' hu ph hh
      by_cases hle : nv vs ≤ hlf (nv ns)
      · have hu0 : u ≤ 0 := hui.2 (by omega)
        have hx : dcV (nv ns) (nv vs) = (nv vs : Int) := by unfold dcV; rw [if_pos hle]
        have HXv : Hid (X = (nv vs : Int)) := HX.out.trans hx
        clear hui hx
        go_wp2_with fail
        refine Calls.mono HC2.out ?_
        rintro e w5 ⟨rfl, hb5⟩
        have hb15 := hb3.trans (hb5.mono hb3.size)
        have r' := p'.below hb5
        clear HC2 p p' hb5 hb3 c0 c1
        go_wp2_with fail
        refine (from_any false _ _ _ _ _ r').mono ?_
        rintro e w6 ⟨fa, fl, fc, rfl, hFr, hb6⟩
        have hb16 := hb15.trans (hb6.mono hb15.size)
        obtain ⟨-, ⟨c0, c1⟩, -, f0, f1⟩ := held22 hb16
        have hn2 := hFr.put2 c0 c1 (.bool (fromN false vs)) (.slice fa fl fc)
        have hBB := ((hV.trans (hb16.mono hV.size)).setCell (p := ⟨w.heap.size + 1, 0, none⟩) (Nat.le_succ _) (.bool (fromN false vs))).setCell (p := ⟨w.heap.size + 1, 1, none⟩) (Nat.le_succ _) (.slice fa fl fc)
        have HW : Hid (ToldW (dcF ns vs) X (fromN false vs) (fromL vs) 0) := by
          refine ToldW.good HF.out ?_
          rw [HXv.out]
          have := IsW.from hv false
          simpa using this
        obtain ⟨t, ht⟩ : ∃ t, t = fromN false vs := ⟨_, rfl⟩
        rw [← ht] at hn2 hBB HW
        rw [← ht]
        clear hFr hv hb15 hb6 hb16 hV ht HF r' hn
        go_wp2_with fail
        exact bodyPost_ret (v := .tuple #[.agg #[.bool t, .slice fa fl fc], .int .i64 0]) (by simp [results, Tryz.results64, go_sem, c0, c1]) rfl ⟨t, fa, fl, fc, _, 0, rfl, hn2, HW.out, hBB⟩
      · have du : decide (u ≤ 0) = false := decide_eq_false (fun e => hle (by have := hui.1 e; omega))
        have hx : dcV (nv ns) (nv vs) = -((nv ns - nv vs : Nat) : Int) := by unfold dcV; rw [if_neg hle]; omega
        have HXv : Hid (X = -((nv ns - nv vs : Nat) : Int)) := HX.out.trans hx
        clear hui hx
        go_wp2_with fail
        refine Calls.mono HC2.out ?_
        rintro e w5 ⟨rfl, hb5⟩
        have hb15 := hb3.trans (hb5.mono hb3.size)
        have r := p.below hb5
        have r' := p'.below hb5
        clear c0 c1
        obtain ⟨⟨c0, c1⟩, -⟩ := held22 hb15
        clear HC2 p p' hb3 hb5
        go_wp2_with fail
        refine (sub_any _ _ _ _ _ _ _ _ _ r r').mono ?_
        rintro e w6 ⟨sa, sl, sc, ss, se, rfl, hS, hRs, -, hb6⟩
        obtain ⟨hs, rfl⟩ := sub_isN hn hv (by omega) hRs
        have hb16 := hb15.trans (hb6.mono hb15.size)
        clear hRs hb15 hb6 r r' hv hn c0 c1
        go_wp2_with fail
        refine (from_any true _ _ _ _ _ hS).mono ?_
        rintro e w7 ⟨fa, fl, fc, rfl, hFr, hb7⟩
        have hb17 := hb16.trans (hb7.mono hb16.size)
        obtain ⟨-, ⟨c0, c1⟩, -, f0, f1⟩ := held22 hb17
        have hn2 := hFr.put2 c0 c1 (.bool (fromN true ss)) (.slice fa fl fc)
        have hBB := ((hV.trans (hb17.mono hV.size)).setCell (p := ⟨w.heap.size + 1, 0, none⟩) (Nat.le_succ _) (.bool (fromN true ss))).setCell (p := ⟨w.heap.size + 1, 1, none⟩) (Nat.le_succ _) (.slice fa fl fc)
        have HW : Hid (ToldW (dcF ns vs) X (fromN true ss) (fromL ss) 0) := by
          refine ToldW.good HF.out ?_
          rw [HXv.out]
          have := IsW.from hs true
          simpa using this
        obtain ⟨t, ht⟩ : ∃ t, t = fromN true ss := ⟨_, rfl⟩
        rw [← ht] at hn2 hBB HW
        rw [← ht]
        clear hFr hs hb16 hb7 hb17 hV ht HF hS
        go_wp2_with fail
        exact bodyPost_ret (v := .tuple #[.agg #[.bool t, .slice fa fl fc], .int .i64 0]) (by simp [results, Tryz.results64, go_sem, c0, c1]) rfl ⟨t, fa, fl, fc, _, 0, rfl, hn2, HW.out, hBB⟩
    · have dq : (0 : Int) ≤ q := by omega
      have HF : Hid (ToldW (dcF ns vs) X false [] 10) := ToldW.bad (by unfold dcF; rw [hm, hr, decide_eq_false hlt]; rfl)
      clear hqi
      go_wp2_with fail
      refine Calls.mono HC.out ?_
      rintro e w3 ⟨rfl, hb3⟩
      obtain ⟨-, ⟨c0, c1⟩, -, f0, f1⟩ := held22 hb3
      have hBB := ((hV.trans (hb3.mono hV.size)).setCell (p := ⟨w.heap.size + 1, 0, none⟩) (Nat.le_succ _) (.bool false)).setCell (p := ⟨w.heap.size + 1, 1, none⟩) (Nat.le_succ _) (.slice none 0 0)
      clear HC m1 mh m1' hb3 hV hn hv hh
      go_wp2_with fail
      exact bodyPost_ret (v := .tuple #[.agg #[.bool false, .slice none 0 0], .int .i64 10]) (by simp [results, Tryz.results64, go_sem, c0, c1]) rfl ⟨false, none, 0, 0, [], 10, rfl, Nums.nil _, HF.out, hBB⟩
end Go.Proofs.YtambpcgdaogojabGreat

namespace Go.Proofs.YtambpcgdaogojabGreat
open Go.RowKit

end Go.Proofs.YtambpcgdaogojabGreat

/-
  The contract of the document's Pack.
-/
import Derived.Test.YtambpcgdaogojaaRef7A
import Derived.Test.YtambpcgdaogojaaModR
import Derived.Deep.RegionWith
import Derived.BigRegion
namespace Go.Proofs.Ytambpcgdaogojaa
open Go.RowKit

set_option maxRecDepth 20000 in
set_option maxHeartbeats 6400000 in
theorem r7pack_any (a : Option Addr) (la ca : Nat) (ns : List Int) (s g h : Int) (w : World) (hN : Nums w a la ca ns) (hg : -9223372036854775808 ≤ g ∧ g < 9223372036854775808) (hh : -9223372036854775808 ≤ h ∧ h < 9223372036854775808) :
    Calls Try.prog 18 #[.slice a la ca, .int .i64 s, .int .i64 g, .int .i64 h] w fun e w' => TripT (pkF ns s g h) (codV (nv ns) (pkX s g h)) w e w' := by
  obtain ⟨X, hX⟩ : ∃ X, X = pkX s g h := ⟨_, rfl⟩
  rw [← hX]
  have HX : Hid (X = pkX s g h) := hX
  clear hX
  have HM := (show Hid _ from r7may_any _ _ _ _ _ hN)
  have KN : Hid (∀ wx, Below w.heap.size w wx → Nums wx a la ca ns) := fun wx hb => hN.below hb
  cases hm : modB ns with
  | false =>
    rw [hm] at HM
    have HF : Hid (Told (pkF ns s g h) (codV (nv ns) X) [] 1) := Told.bad (by unfold pkF; rw [hm]; rfl)
    clear hN hg hh
    go_enter Try.func18, Try.ntmps18
    go_wp2_with fail
    refine Calls.mono HM.out ?_
    rintro e w1 ⟨rfl, hb1⟩
    clear HM
    go_wp2
    go_ret2
    exact ⟨none, 0, 0, [], 1, rfl, Nums.nil _, HF.out, hb1⟩
  | true =>
  rw [hm] at HM
  by_cases hs1 : s < 1
  · have HF : Hid (Told (pkF ns s g h) (codV (nv ns) X) [] 1) := Told.bad (by unfold pkF shB; rw [hm, decide_eq_false (show ¬ 1 ≤ s by omega)]; rfl)
    clear hN hg hh
    go_enter Try.func18, Try.ntmps18
    go_wp2_with fail
    refine Calls.mono HM.out ?_
    rintro e w1 ⟨rfl, hb1⟩
    clear HM
    go_wp2
    go_ret2
    exact ⟨none, 0, 0, [], 1, rfl, Nums.nil _, HF.out, hb1⟩
  by_cases hs2 : 62 < s
  · have HF : Hid (Told (pkF ns s g h) (codV (nv ns) X) [] 1) := Told.bad (by unfold pkF shB; rw [hm, decide_eq_false (show ¬ s ≤ 62 by omega), Bool.and_false]; rfl)
    have d1 : decide (s < 1) = false := decide_eq_false hs1
    clear hN hg hh
    go_enter Try.func18, Try.ntmps18
    go_wp2_with fail
    refine Calls.mono HM.out ?_
    rintro e w1 ⟨rfl, hb1⟩
    clear HM
    go_wp2
    go_ret2
    exact ⟨none, 0, 0, [], 1, rfl, Nums.nil _, HF.out, hb1⟩
  have hsB : shB s = true := (shB_iff s).2 ⟨by omega, by omega⟩
  have d1 : decide (s < 1) = false := decide_eq_false hs1
  have d2 : decide (62 < s) = false := decide_eq_false hs2
  have hs0 : 0 ≤ s ∧ s ≤ 62 := by omega
  by_cases h0 : h < 0
  · have HF : Hid (Told (pkF ns s g h) (codV (nv ns) X) [] 12) := Told.bad (by unfold pkF; rw [hm, hsB, decide_eq_false (show ¬ 0 ≤ h by omega)]; rfl)
    clear hN hg hh hs0
    go_enter Try.func18, Try.ntmps18
    go_wp2_with fail
    refine Calls.mono HM.out ?_
    rintro e w1 ⟨rfl, hb1⟩
    clear HM
    go_wp2
    go_ret2
    exact ⟨none, 0, 0, [], 12, rfl, Nums.nil _, HF.out, hb1⟩
  have d3 : decide (h < 0) = false := decide_eq_false h0
  obtain ⟨P, hP⟩ : ∃ P : Int, P = 2 ^ s.toNat := ⟨_, rfl⟩
  have hP1 := pow62 hs0
  rw [← hP] at hP1
  have HP : Hid (P = 2 ^ s.toNat) := hP
  have HPw : Hid (∀ wx, Calls Try.prog 40 #[.int .i64 s] wx fun e w' => TellsW P wx e w') := fun wx => by
    have := r7power_any s wx hs0
    rw [← hP] at this
    exact this
  clear hP hs0
  go_enter Try.func18, Try.ntmps18
  go_wp2_with fail
  refine Calls.mono HM.out ?_
  rintro e w1 ⟨rfl, hb1⟩
  clear HM
  have k := hN.below hb1
  clear hN
  go_wp2_with fail
  refine (refIOf_any h _ hh).mono ?_
  rintro e w2 ⟨oa, ol, oc, rfl, hO, hb2⟩
  have hB2 := hb1.trans (hb2.mono hb1.size)
  have m := k.below hb2
  have hoW := IsW.of hh
  rw [d3] at hoW
  rw [d3]
  clear k hb1 hb2
  go_wp2_with fail
  refine (HPw.out _).mono ?_
  rintro e w3 ⟨pn, pa, pl, pc, ps, rfl, hPn, hpW, hb3⟩
  have hB3 := hB2.trans (hb3.mono hB2.size)
  have o := m.below hb3
  have hO3 := hO.below hb3
  have HC := (show Hid _ from refICmp_any false pn _ _ _ _ _ _ _ _ _ hO3 hPn)
  rw [hoW.cmp hpW] at HC
  have hqi := cmpZ_lt0 (x := h) (y := P)
  obtain ⟨q, hq⟩ : ∃ q, q = cmpZ h P := ⟨_, rfl⟩
  rw [← hq] at HC hqi
  clear m hO hO3 hPn hB2 hb3 hq hoW hpW
  go_wp2_with fail
  refine Calls.mono HC.out ?_
  rintro e w4 ⟨rfl, hb4⟩
  have hB4 := hB3.trans (hb4.mono hB3.size)
  have p := o.below hb4
  clear HC o hB3 hb4
  by_cases hlt : h < P
  · have dq : decide ((0 : Int) ≤ q) = false := decide_eq_false (by omega)
    clear hqi
    go_wp2_with fail
    refine (refIOf_any g _ hg).mono ?_
    rintro e w5 ⟨ga, gl, gc, rfl, hG, hb5⟩
    have hB5 := hB4.trans (hb5.mono hB4.size)
    have r := p.below hb5
    have hgW := IsW.of hg
    obtain ⟨gn, hgn⟩ : ∃ gn, gn = decide (g < 0) := ⟨_, rfl⟩
    rw [← hgn] at hgW
    rw [← hgn]
    clear p hb5 hB4 hgn
    go_wp2_with fail
    refine (HPw.out _).mono ?_
    rintro e w6 ⟨pn', pa', pl', pc', ps', rfl, hPn, hpW, hb6⟩
    have hB6 := hB5.trans (hb6.mono hB5.size)
    have t := r.below hb6
    have hG6 := hG.below hb6
    clear r hb6 hB5 hG HPw
    go_wp2_with fail
    refine (refIMul_any gn pn' _ _ _ _ _ _ _ _ _ hG6 hPn).mono ?_
    rintro e w7 ⟨q7, ma, ml, mc, ms, me, rfl, hMn, hR, hb7⟩
    have hB7 := hB6.trans (hb7.mono hB6.size)
    have u := t.below hb7
    have hab := prod_abs (x := g) (y := P) (a := 9223372036854775808) (b := 4611686018427387904) (by omega) (by omega) (by decide)
    have hbig : (9223372036854775808 : Int) * 4611686018427387904 + 9223372036854775808 < 18446744073709551616 ^ 64 := by decide
    have hmW : IsW q7 ms (g * P) := by
      have := hR.got hgW.2.1 hpW.2.1
      rw [hgW.2.2, hpW.2.2] at this
      exact (IsW.res this (by omega)).1
    have HW2 : Hid (((g * P + h).natAbs : Int) < 18446744073709551616 ^ 64) := by show _ < _; omega
    clear hR t hG6 hPn hgW hpW hb7 hB6 hbig hab
    have hV := hB7.alloc hB7.size (.cells #[.bool q7, .slice ma ml mc] 25)
    have hVV := (Below.refl w7.heap.size w7).alloc (Nat.le_refl _) (.cells #[.bool q7, .slice ma ml mc] 25)
    have c0 : (w7.alloc (.cells #[.bool q7, .slice ma ml mc] 25)).cell? ⟨w7.heap.size, 0, none⟩ = some (.bool q7) := by simp
    have c1 : (w7.alloc (.cells #[.bool q7, .slice ma ml mc] 25)).cell? ⟨w7.heap.size, 1, none⟩ = some (.slice ma ml mc) := by simp
    have f0 : (w7.alloc (.cells #[.bool q7, .slice ma ml mc] 25)).frozen? ⟨w7.heap.size, 0, none⟩ = false := by simp
    have f1 : (w7.alloc (.cells #[.bool q7, .slice ma ml mc] 25)).frozen? ⟨w7.heap.size, 1, none⟩ = false := by simp
    have hGz := hB7.size
    have uV := u.below hVV
    have mV := hMn.below hVV
    go_upto_region 7 with fail
    generalize w7.alloc (.cells #[.bool q7, .slice ma ml mc] 25) = V at *
    generalize w7.heap.size = G at *
    have HOf : Hid (∀ wx, Below V.heap.size V wx → Calls Try.prog 39 #[.int .i64 h] wx fun e w' => ∃ na nl nc xs, e = .returned (.agg #[.bool false, .slice na nl nc]) ∧ (Nums w' na nl nc xs ∧ IsW false xs h ∧ Below V.heap.size V w') ∧ w'.cell? ⟨G, 0, none⟩ = some (.bool q7) ∧ w'.cell? ⟨G, 1, none⟩ = some (.slice ma ml mc)) := by
      intro wx hbx
      refine (refIOf_any h wx hh).mono ?_
      rintro e w' ⟨na, nl, nc, rfl, hn, hb⟩
      have hb' := hbx.trans (hb.mono hbx.size)
      have hw := IsW.of hh
      rw [d3] at hw
      rw [d3]
      exact ⟨na, nl, nc, _, rfl, ⟨hn, hw, hb'⟩, bkeep hb' c0 rfl, bkeep hb' c1 rfl⟩
    have HAd : Hid (∀ wx na nl nc xs, Nums wx na nl nc xs → IsW false xs h → Below V.heap.size V wx → Calls Try.prog 42 #[.agg #[.bool q7, .slice ma ml mc], .agg #[.bool false, .slice na nl nc]] wx fun e w' => ∃ z za zl zc zs, e = .returned (.tuple #[.agg #[.bool z, .slice za zl zc], .int .i64 0]) ∧ (Nums w' za zl zc zs ∧ IsW z zs X ∧ Below V.heap.size V w') ∧ w'.cell? ⟨G, 0, none⟩ = some (.bool q7) ∧ w'.cell? ⟨G, 1, none⟩ = some (.slice ma ml mc) ∧ w'.frozen? ⟨G, 0, none⟩ = false ∧ w'.frozen? ⟨G, 1, none⟩ = false) := by
      intro wx na nl nc xs hn hw hbx
      refine (refIAdd_any q7 false _ _ _ _ _ _ _ _ wx (mV.below hbx) hn).mono ?_
      rintro e w' ⟨z, za, zl, zc, zs, ze, rfl, hz, hRz, hb⟩
      have hb' := hbx.trans (hb.mono hbx.size)
      have h1 := hRz.got hmW.2.1 hw.2.1
      rw [hmW.2.2, hw.2.2] at h1
      obtain ⟨h2, rfl⟩ := IsW.res h1 HW2.out
      have hX2 : X = g * P + h := by rw [HX.out, HP.out]; rfl
      rw [← hX2] at h2
      have hlt := World.block_lt_of_cell? _ _ c0
      exact ⟨z, za, zl, zc, zs, rfl, ⟨hz, h2, hb'⟩, bkeep hb' c0 rfl, bkeep hb' c1 rfl, ((bcell hb').2 _ _ hlt).trans f0, ((bcell hb').2 _ _ hlt).trans f1⟩
    go_cut [43] (fun _ wx => ∃ z za zl zc zs, wx.cell? ⟨G, 0, none⟩ = some (.bool z) ∧ wx.cell? ⟨G, 1, none⟩ = some (.slice za zl zc) ∧ Nums wx za zl zc zs ∧ IsW z zs X ∧ Below w.heap.size w wx)
    case first =>
      have HV : Hid (Below w.heap.size w V) := hV
      have HG : Hid (w.heap.size ≤ G) := hGz
      clear hB7 u uV hMn mV hmW HW2 hV hVV hGz f0 f1
      go_region_with (first
        | (go_at_call 39; refine (HOf.out _ ?_).mono ?_; (exact ⟨rfl, rfl, rfl, Nat.le_refl _, fun _ _ => rfl⟩); rintro e v3 ⟨na, nl, nc, xs, rfl, hO, k0, k1⟩)
        | (go_at_call 42; refine (HAd.out _ _ _ _ xs ?_ ?_ ?_).mono ?_; (exact hO.1.alike (fun _ => rfl)); (exact hO.2.1); (exact ⟨hO.2.2.os, hO.2.2.tape, hO.2.2.output, hO.2.2.size, hO.2.2.block⟩); rintro e v4 ⟨z, za, zl, zc, zs, rfl, hZ, d0, d1', e0, e1⟩))
      all_goals
        clear HOf HAd hO
        go_wp2_with fail
        go_meet
        case rel =>
          refine ⟨z, za, zl, zc, zs, (put2_here d0 d1' _ _).1, (put2_here d0 d1' _ _).2, (hZ.1.put2 d0 d1' (.bool z) (.slice za zl zc)).alike (fun _ => rfl), hZ.2.1, ?_⟩
          have hb := HV.out.trans (hZ.2.2.mono HV.out.size)
          have hb2 := (hb.setCell (p := ⟨G, 0, none⟩) HG.out (.bool z)).setCell (p := ⟨G, 1, none⟩) HG.out (.slice za zl zc)
          exact ⟨hb2.os, hb2.tape, hb2.output, hb2.size, hb2.block⟩
    case rest =>
      obtain ⟨z, za, zl, zc, zs, b0, b1, hZ, hzW, hBc⟩ := hcut
      have kc := KN.out _ hBc
      have HEn : Hid (Calls Try.prog 12 #[.slice a la ca, .agg #[.bool z, .slice za zl zc]] wc fun e w' => TripT (pkF ns s g h) (codV (nv ns) X) wc e w') := by
        have hEn := r7encode_any z _ _ _ _ _ _ ns zs wc kc hZ
        rw [cod_pk hm hsB (by omega) (by rw [← HP.out]; exact hlt) (by rw [← HX.out]; exact hzW), hzW.2.2] at hEn
        exact hEn
      clear HOf HAd hB7 u uV hMn mV hmW HW2 hV hVV hGz f0 f1 c0 c1 hZ hzW kc
      go_wp2_with fail
      refine Calls.mono HEn.out ?_
      rintro e w9 ⟨ea, el, ec, es, er, rfl, hE, hT, hb9⟩
      have hB9 := hBc.trans (hb9.mono hBc.size)
      have HT : Hid (Told (pkF ns s g h) (codV (nv ns) X) es er) := hT
      clear HEn hT hb9 hBc b0 b1
      go_wp2
      go_ret2
      exact ⟨ea, el, ec, es, er, rfl, hE, HT.out, hB9⟩
  · have dq : (0 : Int) ≤ q := by omega
    have HF : Hid (Told (pkF ns s g h) (codV (nv ns) X) [] 12) := Told.bad (by unfold pkF; rw [hm, hsB, ← HP.out, decide_eq_false hlt, Bool.and_false]; rfl)
    clear hqi HPw HP HX p
    go_wp2
    go_ret2
    exact ⟨none, 0, 0, [], 12, rfl, Nums.nil _, HF.out, hB4⟩
end Go.Proofs.Ytambpcgdaogojaa

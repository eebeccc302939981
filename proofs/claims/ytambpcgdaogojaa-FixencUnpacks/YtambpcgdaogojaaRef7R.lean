/-
  The contract of the document's Room.
-/
import Derived.Test.YtambpcgdaogojaaRef7P
import Derived.Test.YtambpcgdaogojaaDivOf
import Derived.Deep.RegionWith
import Derived.BigRegion
namespace Go.Proofs.Ytambpcgdaogojaa
open Go.RowKit

theorem Fac.isW {w : World} {g : Nat} {v : Int} (h : Fac w g v) : ∃ p a n c L, (w.cell? ⟨g, 0, none⟩ = some (.bool p) ∧ w.cell? ⟨g, 1, none⟩ = some (.slice a n c)) ∧ (w.frozen? ⟨g, 0, none⟩ = false ∧ w.frozen? ⟨g, 1, none⟩ = false) ∧ Nums w a n c L ∧ IsW p L v := by
  obtain ⟨p, a, n, c, L, h1, h2, hn, hr, hv⟩ := h
  exact ⟨p, a, n, c, L, h1, h2, hn, hn.digs, hr, hv⟩
theorem Fac.alike {w w' : World} {g : Nat} {v : Int} (h : Fac w g v) (hc : ∀ p, w'.cell? p = w.cell? p) (hf : ∀ p, w'.frozen? p = w.frozen? p) : Fac w' g v := by
  obtain ⟨p, a, n, c, L, ⟨c0, c1⟩, ⟨f0, f1⟩, hn, hr, hv⟩ := h
  exact ⟨p, a, n, c, L, ⟨(hc _).trans c0, (hc _).trans c1⟩, ⟨(hf _).trans f0, (hf _).trans f1⟩, hn.alike hc, hr, hv⟩
set_option maxRecDepth 20000 in
set_option maxHeartbeats 20000000 in
theorem r7room_any (a : Option Addr) (la ca : Nat) (ns : List Int) (r m k : Int) (w : World) (hN : Nums w a la ca ns) (hr : -9223372036854775808 ≤ r ∧ r < 9223372036854775808) (hm : -9223372036854775808 ≤ m ∧ m < 9223372036854775808) (hk : -9223372036854775808 ≤ k ∧ k < 9223372036854775808) :
    Calls Try.prog 22 #[.slice a la ca, .int .i64 r, .int .i64 m, .int .i64 k] w fun e w' => RoomT ns r m k w e w' := by
  have HM := (show Hid _ from r7may_any _ _ _ _ _ hN)
  cases hmod : modB ns with
  | false =>
    rw [hmod] at HM
    have HF : Hid (ResRoom ns r m k 0 1) := room_no (by unfold roomB; rw [hmod]; rfl)
    clear hN hr hm hk
    go_enter Try.func22, Try.ntmps22
    go_wp2_with fail
    refine Calls.mono HM.out ?_
    rintro e w1 ⟨rfl, hb1⟩
    clear HM
    go_wp2
    go_ret2
    exact ⟨0, 1, rfl, HF.out, hb1⟩
  | true =>
  rw [hmod] at HM
  by_cases r1 : r < 1
  · have HF : Hid (ResRoom ns r m k 0 1) := room_no (by unfold roomB; rw [decide_eq_false (show ¬ 1 ≤ r by omega), Bool.false_and, Bool.and_false])
    clear hN hr hm hk
    go_enter Try.func22, Try.ntmps22
    go_wp2_with fail
    refine Calls.mono HM.out ?_
    rintro e w1 ⟨rfl, hb1⟩
    clear HM
    go_wp2
    go_ret2
    exact ⟨0, 1, rfl, HF.out, hb1⟩
  have dr : decide (r < 1) = false := decide_eq_false r1
  by_cases m1 : m < 1
  · have HF : Hid (ResRoom ns r m k 0 1) := room_no (by unfold roomB; rw [decide_eq_false (show ¬ 1 ≤ m by omega), Bool.false_and, Bool.and_false, Bool.and_false])
    clear hN hr hm hk
    go_enter Try.func22, Try.ntmps22
    go_wp2_with fail
    refine Calls.mono HM.out ?_
    rintro e w1 ⟨rfl, hb1⟩
    clear HM
    go_wp2
    go_ret2
    exact ⟨0, 1, rfl, HF.out, hb1⟩
  have dm : decide (m < 1) = false := decide_eq_false m1
  by_cases k1 : k < 1
  · have HF : Hid (ResRoom ns r m k 0 1) := room_no (by unfold roomB; rw [decide_eq_false (show ¬ 1 ≤ k by omega), Bool.and_false, Bool.and_false, Bool.and_false])
    clear hN hr hm hk
    go_enter Try.func22, Try.ntmps22
    go_wp2_with fail
    refine Calls.mono HM.out ?_
    rintro e w1 ⟨rfl, hb1⟩
    clear HM
    go_wp2
    go_ret2
    exact ⟨0, 1, rfl, HF.out, hb1⟩
  have dk : decide (k < 1) = false := decide_eq_false k1
  have HRB : Hid (roomB ns r m k = true) := by
    show _ = _
    unfold roomB
    rw [hmod, decide_eq_true (show 1 ≤ r by omega), decide_eq_true (show 1 ≤ m by omega), decide_eq_true (show 1 ≤ k by omega)]
    rfl
  have KN : Hid (∀ wx, Below w.heap.size w wx → Nums wx a la ca ns) := fun wx hb => hN.below hb
  obtain ⟨rn, n8, n3⟩ := (modB_iff ns).1 hmod
  have hn := IsN.self hN.digs rn
  have HNn : Hid (IsN ns (nv ns) ∧ 3 ≤ nv ns) := ⟨hn, n3⟩
  obtain ⟨R, hR⟩ : ∃ R, R = r * k := ⟨_, rfl⟩
  obtain ⟨M, hM⟩ : ∃ M, M = r * m := ⟨_, rfl⟩
  have hRb := prod_abs (x := r) (y := k) (a := 9223372036854775808) (b := 9223372036854775808) (by omega) (by omega) (by decide)
  have hMb := prod_abs (x := r) (y := m) (a := 9223372036854775808) (b := 9223372036854775808) (by omega) (by omega) (by decide)
  have hMp : 1 * 1 ≤ r * m := Int.mul_le_mul (by omega) (by omega) (by decide) (by omega)
  rw [← hR] at hRb
  rw [← hM] at hMb hMp
  have HRM : Hid (R = r * k ∧ M = r * m) := ⟨hR, hM⟩
  have hbig : (9223372036854775808 : Int) * 9223372036854775808 = 85070591730234615865843651857942052864 := by decide
  rw [hbig] at hRb hMb
  clear hR hM hn n3 rn n8 hN hbig
  have HMul : Hid (∀ (x y z : Int) (p q : Bool) (a b : Option Addr) (la ca lb cb : Nat) (xs ys : List Int) (wx : World), Nums wx a la ca xs → Nums wx b lb cb ys → IsW p xs x → IsW q ys y → x * y = z → (z.natAbs : Int) < 18446744073709551616 ^ 64 → Calls Try.prog 41 #[.agg #[.bool p, .slice a la ca], .agg #[.bool q, .slice b lb cb]] wx fun e w' => ∃ o oa ol oc os, e = .returned (.tuple #[.agg #[.bool o, .slice oa ol oc], .int .i64 0]) ∧ Nums w' oa ol oc os ∧ IsW o os z ∧ Below wx.heap.size wx w') := by
    intro x y z p q a b la ca lb cb xs ys wx h1 h2 hx hy hz hzb
    refine (refIMul_any p q _ _ _ _ _ _ _ _ wx h1 h2).mono ?_
    rintro e w' ⟨o, oa, ol, oc, os, err, rfl, hO, hres, hb⟩
    have := hres.got hx.2.1 hy.2.1
    rw [hx.2.2, hy.2.2, hz] at this
    obtain ⟨h3, rfl⟩ := IsW.res this hzb
    exact ⟨o, oa, ol, oc, os, rfl, hO, h3, hb⟩
  have h64 : (85070591730234615865843651857942052864 : Int) * 4611686018427387904 + 4611686018427387904 < 18446744073709551616 ^ 64 := by decide
  have HB64 : Hid (∀ z : Int, (z.natAbs : Int) ≤ (85070591730234615865843651857942052864 : Int) * 4611686018427387904 + 4611686018427387904 → (z.natAbs : Int) < 18446744073709551616 ^ 64) := fun z hz => Int.lt_of_le_of_lt hz h64
  clear h64
  go_enter Try.func22, Try.ntmps22
  go_wp2_with fail
  refine Calls.mono HM.out ?_
  rintro e w1 ⟨rfl, hb1⟩
  clear HM
  have dr0 : decide (r < 0) = false := decide_eq_false (by omega)
  have dm0 : decide (m < 0) = false := decide_eq_false (by omega)
  have dk0 : decide (k < 0) = false := decide_eq_false (by omega)
  have hrW := IsW.of hr
  have hmW := IsW.of hm
  have hkW := IsW.of hk
  rw [dr0] at hrW
  rw [dm0] at hmW
  rw [dk0] at hkW
  go_wp2_with fail
  refine (refIOf_any r _ hr).mono ?_
  rintro e w2 ⟨ra, rl, rc, rfl, hRn, hb2⟩
  rw [dr0]
  have hB2 := hb1.trans (hb2.mono hb1.size)
  clear hb1 hb2
  go_wp2_with fail
  refine (refIOf_any k _ hk).mono ?_
  rintro e w3 ⟨ka, kl, kc, rfl, hKn, hb3⟩
  rw [dk0]
  have hB3 := hB2.trans (hb3.mono hB2.size)
  have hRn3 := hRn.below hb3
  clear hRn hB2 hb3
  have HC4 := (show Hid _ from HMul.out _ _ R _ _ _ _ _ _ _ _ _ _ _ hRn3 hKn hrW hkW HRM.out.1.symm (HB64.out _ (by omega)))
  clear hRn3 hKn
  go_wp2_with fail
  refine Calls.mono HC4.out ?_
  rintro e w4 ⟨o, oa, ol, oc, os, rfl, hO, hoW, hb4⟩
  have hB4 := hB3.trans (hb4.mono hB3.size)
  clear HC4 hB3 hb4
  have F1 : Fac (w4.alloc (.cells #[.bool o, .slice oa ol oc] 25)) w4.heap.size R := fac_alloc hO hoW.2.1 hoW.2.2
  have hBV := hB4.alloc hB4.size (.cells #[.bool o, .slice oa ol oc] 25)
  clear hO hoW hB4
  go_wp2_with fail
  generalize w4.alloc (.cells #[.bool o, .slice oa ol oc] 25) = V at *
  generalize w4.heap.size = G1 at *
  refine (refIOf_any r _ hr).mono ?_
  rintro e w5 ⟨ra', rl', rc', rfl, hRn, hb5⟩
  rw [dr0]
  have hB5 := hBV.trans (hb5.mono hBV.size)
  replace F1 := F1.below hb5
  clear hBV hb5
  go_wp2_with fail
  refine (refIOf_any m _ hm).mono ?_
  rintro e w6 ⟨ma, ml, mc, rfl, hMn, hb6⟩
  rw [dm0]
  have hB6 := hB5.trans (hb6.mono hB5.size)
  replace F1 := F1.below hb6
  have hRn6 := hRn.below hb6
  clear hRn hB5 hb6
  have HC7 := (show Hid _ from HMul.out _ _ M _ _ _ _ _ _ _ _ _ _ _ hRn6 hMn hrW hmW HRM.out.2.symm (HB64.out _ (by omega)))
  clear hRn6 hMn hrW hmW hkW
  go_wp2_with fail
  refine Calls.mono HC7.out ?_
  rintro e w7 ⟨g, ga, gl, gc, gs, rfl, hG, hgW, hb7⟩
  have hB7 := hB6.trans (hb7.mono hB6.size)
  replace F1 := F1.below hb7
  clear HC7 hB6 hb7
  have F2 : Fac (w7.alloc (.cells #[.bool g, .slice ga gl gc] 25)) w7.heap.size M := fac_alloc hG hgW.2.1 hgW.2.2
  have hBU := hB7.alloc hB7.size (.cells #[.bool g, .slice ga gl gc] 25)
  replace F1 := F1.below ((Below.refl w7.heap.size w7).alloc (Nat.le_refl _) (.cells #[.bool g, .slice ga gl gc] 25))
  clear hG hgW hB7 dr dm dk dr0 dm0 dk0
  go_wp2
  generalize w7.alloc (.cells #[.bool g, .slice ga gl gc] 25) = U at *
  generalize w7.heap.size = G2 at *
  go_loopw [15] (fun iv wr => ∃ t : Nat, 1 ≤ t ∧ t ≤ 63 ∧ iv = .int .i64 t ∧ Hid (∀ j : Nat, 1 ≤ j → j < t → (2 : Int) ^ j ≤ r * k) ∧ Below U.heap.size U wr) (fun iv _ => 63 - (intOf iv).toNat)
  case atStart => exact ⟨1, by omega, by omega, rfl, (fun j h1 h2 => by omega : ∀ j : Nat, 1 ≤ j → j < 1 → (2 : Int) ^ j ≤ r * k), Below.refl _ _⟩
  case round =>
    obtain ⟨t, t1, t63, rfl, HJ, hbr⟩ := hrel
    have F1r := F1.below hbr
    have F2r := F2.below hbr
    have hBr := hBU.trans (hbr.mono hBU.size)
    by_cases ht : t ≤ 62
    · have hti : (t : Int) ≤ 62 := by omega
      obtain ⟨P, hP⟩ : ∃ P : Int, P = 2 ^ t := ⟨_, rfl⟩
      have hP1 : 1 ≤ P ∧ P ≤ 4611686018427387904 := by
        have := pow62 (s := (t : Int)) (by omega)
        rw [Int.toNat_natCast, ← hP] at this
        exact this
      have HPw : Hid (∀ (B wx : World), Below B.heap.size B wx → Calls Try.prog 40 #[.int .i64 (t : Int)] wx fun e w' => ∃ ya yn yc, e = .returned (.agg #[.bool false, .slice ya yn yc]) ∧ (Hid (∃ ys, Nums w' ya yn yc ys ∧ IsW false ys P) ∧ Below B.heap.size B w') ∧ (∀ b o, b < wx.heap.size → w'.cell? ⟨b, o, none⟩ = wx.cell? ⟨b, o, none⟩) ∧ (∀ b o, b < wx.heap.size → w'.frozen? ⟨b, o, none⟩ = wx.frozen? ⟨b, o, none⟩) ∧ (∀ b, b < wx.heap.size → b < w'.heap.size)) := fun B wx hbx => by
        have := r7power_any (t : Int) wx (by omega)
        rw [Int.toNat_natCast, ← hP] at this
        refine this.mono ?_
        rintro e w' ⟨pn, ya, yn, yc, ys, rfl, hY, hyW, hb⟩
        obtain rfl : pn = false := by rw [hyW.sign]; exact decide_eq_false (by omega)
        exact ⟨ya, yn, yc, rfl, ⟨⟨ys, hY, hyW⟩, hbx.trans (hb.mono hbx.size)⟩, bfactsD hb⟩
      have HP : Hid (P = 2 ^ t) := hP
      have hPM := prod_abs (x := M) (y := P) (a := 85070591730234615865843651857942052864) (b := 4611686018427387904) (by omega) (by omega) (by decide)
      have hPM0 : 1 * 1 ≤ M * P := Int.mul_le_mul (by omega) (by omega) (by decide) (by omega)
      clear hP F1 F2 hBU
      obtain ⟨hp, ha, hl, hc, hs, ⟨c0, c1⟩, -, hHn, hHW⟩ := F1r.isW
      have HCm : Hid (∀ (wx : World) (ya : Option Addr) (yn yc : Nat), (∃ ys, Nums wx ya yn yc ys ∧ IsW false ys P) → Below wr.heap.size wr wx → Calls Try.prog 38 #[.agg #[.bool hp, .slice ha hl hc], .agg #[.bool false, .slice ya yn yc]] wx fun e w' => e = .returned (.int .i64 (cmpZ R P)) ∧ Below wr.heap.size wr w') := by
        rintro wx ya yn yc ⟨ys, hy, hyW⟩ hbx
        refine (refICmp_any hp false _ _ _ _ _ _ _ _ wx (hHn.below hbx) hy).mono ?_
        rintro e w' ⟨rfl, hb⟩
        exact ⟨by rw [hHW.cmp hyW], hbx.trans (hb.mono hbx.size)⟩
      have hqi := cmpZ_lt0 (x := R) (y := P)
      obtain ⟨q, hq⟩ : ∃ q, q = cmpZ R P := ⟨_, rfl⟩
      rw [← hq] at HCm hqi
      obtain ⟨tb, htb⟩ : ∃ tb, tb = decide ((0 : Int) ≤ q) := ⟨_, rfl⟩
      have HTb : Hid (tb = decide ((0 : Int) ≤ q)) := htb
      have HQ : Hid (q < 0 ↔ R < P) := hqi
      clear hq htb hqi F1r hHn hHW
      have HK := (show Hid _ from And.intro F2r (And.intro hBr hbr))
      clear F2r hBr hbr
      go_wp2_with fail
      go_cut [58] from 50 to 85 (fun v wx => v = .bool tb ∧ Below wr.heap.size wr wx)
      case first =>
        clear HRB KN HNn HRM HMul HB64 HJ HP HQ HK hPM hPM0 hRb hMb hMp
        go_region_with (first
          | (go_at_call 40; refine (HPw.out wr _ ?_).mono ?_; (exact ⟨rfl, rfl, rfl, Nat.le_refl _, fun _ _ => rfl⟩); rintro e w3 ⟨ya, yn, yc, rfl, hY, hc3, hf3, hs3⟩; clear hc3 hf3 hs3; have q0 := bkeep hY.2 c0 rfl; have q1 := bkeep hY.2 c1 rfl)
          | (go_at_call 38; refine (HCm.out _ ya yn yc ?_ ?_).mono ?_; (obtain ⟨ys, h1, h2⟩ := hY.1.out; exact ⟨ys, h1.alike (fun _ => rfl), h2⟩); (exact ⟨hY.2.os, hY.2.tape, hY.2.output, hY.2.size, hY.2.block⟩); rintro e w4 ⟨rfl, hb4⟩))
        all_goals
          clear HPw HCm hY
          go_wp2_with fail
          go_meet
          case rel => exact ⟨by rw [HTb.out], ⟨hb4.os, hb4.tape, hb4.output, hb4.size, hb4.block⟩⟩
      case rest =>
        obtain ⟨rfl, hbc⟩ := hcut
        obtain ⟨F2r, hBr, hbr⟩ := HK.out
        clear HCm c0 c1 HK
        obtain ⟨W1, hW1⟩ : ∃ W1, W1 = wc := ⟨_, rfl⟩
        subst hW1
        have hb1U := hbr.trans (hbc.mono hbr.size)
        have hB1 := hBr.trans (hbc.mono hBr.size)
        have F2c := F2r.below hbc
        clear F2r hBr hbr hbc
        by_cases hlt : R < P
        · obtain rfl : tb = false := HTb.out.trans (decide_eq_false (by have := HQ.out.2 hlt; omega))
          have HLe : Hid (LeastT r k t) := ⟨t1, by rw [← HP.out, ← HRM.out.1]; exact hlt, HJ.out⟩
          clear HTb HQ HJ hb1U
          obtain ⟨gp, ga, gl, gc, gs, ⟨d0, d1⟩, -, hGn, hGW⟩ := F2c.isW
          have HMu : Hid (∀ (wx : World) (ya : Option Addr) (yn yc : Nat), (∃ ys, Nums wx ya yn yc ys ∧ IsW false ys P) → Below W1.heap.size W1 wx → Calls Try.prog 41 #[.agg #[.bool gp, .slice ga gl gc], .agg #[.bool false, .slice ya yn yc]] wx fun e w' => ∃ mp ma mn mc, e = .returned (.tuple #[.agg #[.bool mp, .slice ma mn mc], .int .i64 0]) ∧ Hid (∃ ms, Nums w' ma mn mc ms ∧ IsW mp ms (M * P) ∧ Below W1.heap.size W1 w') ∧ (∀ b o, b < wx.heap.size → w'.cell? ⟨b, o, none⟩ = wx.cell? ⟨b, o, none⟩) ∧ (∀ b o, b < wx.heap.size → w'.frozen? ⟨b, o, none⟩ = wx.frozen? ⟨b, o, none⟩) ∧ (∀ b, b < wx.heap.size → b < w'.heap.size)) := by
            rintro wx ya yn yc ⟨ys, hy, hyW⟩ hbx
            refine (HMul.out _ _ (M * P) _ _ _ _ _ _ _ _ _ _ wx (hGn.below hbx) hy hGW hyW rfl (HB64.out _ (by omega))).mono ?_
            rintro e w' ⟨o, oa, ol, oc, os, rfl, hO, hoW, hb⟩
            exact ⟨o, oa, ol, oc, rfl, ⟨os, hO, hoW, hbx.trans (hb.mono hbx.size)⟩, bfactsD hb⟩
          have hG2 := World.block_lt_of_cell? _ _ d0
          clear hGn hGW F2c HMul
          go_wp2_with fail
          go_cut [16] from 50 to 85 (fun pv wx => ∃ g16, pv = .pointer (some ⟨g16, 0, none⟩) ∧ Fac wx g16 (M * P) ∧ W1.heap.size ≤ g16 ∧ Below W1.heap.size W1 wx)
          case first =>
            clear HRB KN HNn HRM HB64 HP HLe hPM hPM0 hRb hMb hMp hB1
            go_region_with (first
              | (go_at_call 40; refine (HPw.out W1 _ ?_).mono ?_; (focus (repeat (first | exact Below.refl _ _ | refine bdrawD ?_ | refine bgrowD ?_ _))); rintro e w3 ⟨ya, yn, yc, rfl, hY, hc3, hf3, hs3⟩; have q0 := bkeep hY.2 d0 rfl; have q1 := bkeep hY.2 d1 rfl; have kq := World.block_lt_of_cell? _ _ q0; (try have m30 := hc3 W1.heap.size 0 (by first | omega | (simp; done) | (simp; omega))); (try have m31 := hc3 W1.heap.size 1 (by first | omega | (simp; done) | (simp; omega))); (try have n30 := hf3 W1.heap.size 0 (by first | omega | (simp; done) | (simp; omega))); (try have n31 := hf3 W1.heap.size 1 (by first | omega | (simp; done) | (simp; omega))); (try have k3 := hs3 W1.heap.size (by first | omega | (simp; done) | (simp; omega))); clear hc3 hf3 hs3)
              | (go_at_call 41; refine (HMu.out _ ya yn yc ?_ ?_).mono ?_; (obtain ⟨ys, h1, h2⟩ := hY.1.out; refine ⟨ys, ?_, h2⟩; (focus (repeat (first | exact h1 | refine Nums.drawD ?_ | refine Nums.growD ?_ _)))); (focus (repeat (first | exact hY.2 | refine bdrawD ?_ | refine bgrowD ?_ _))); rintro e w4 ⟨mp, ma, mn, mc, rfl, hM, hc4, hf4, hs4⟩; (try have m40 := hc4 W1.heap.size 0 (by first | omega | (simp; done) | (simp; omega))); (try have m41 := hc4 W1.heap.size 1 (by first | omega | (simp; done) | (simp; omega))); (try have n40 := hf4 W1.heap.size 0 (by first | omega | (simp; done) | (simp; omega))); (try have n41 := hf4 W1.heap.size 1 (by first | omega | (simp; done) | (simp; omega))); (try have k4 := hs4 W1.heap.size (by first | omega | (simp; done) | (simp; omega))); (try have m42 := hc4 w3.heap.size 0 (by first | omega | (simp; done) | (simp; omega))); (try have m43 := hc4 w3.heap.size 1 (by first | omega | (simp; done) | (simp; omega))); (try have n42 := hf4 w3.heap.size 0 (by first | omega | (simp; done) | (simp; omega))); (try have n43 := hf4 w3.heap.size 1 (by first | omega | (simp; done) | (simp; omega))); clear hc4 hf4 hs4))
            all_goals
              clear HPw HMu
              go_wp2_with fail
              go_meet
              case rel =>
                obtain ⟨ms, hMs, hMW, hbM⟩ := hM.out
                have hz3 := hY.2.size
                have hz4 := hbM.size
                first
                  | exact ⟨_, rfl, fac_alloc hMs hMW.2.1 hMW.2.2, hz4, bgrowD hbM _⟩
                  | (refine ⟨_, rfl, fac_put (q := false) (sa := none) (sn := 0) (sc := 0) ?_ ?_ ?_ ?_ hMs hMW.2.1 hMW.2.2, ?_, (hbM.setCell ?_ _).setCell ?_ _⟩
                     · go_simp
                     · go_simp
                     · go_simp
                     · go_simp
                     · first | omega | (simp; done) | (simp; omega)
                     · first | (simp; done) | (simp; omega)
                     · first | (simp; done) | (simp; omega))
          case rest =>
            obtain ⟨g16, rfl, F16, hg16, hb2⟩ := hcut
            clear HMu d0 d1 hG2
            obtain ⟨W2, hW2⟩ : ∃ W2, W2 = wc := ⟨_, rfl⟩
            subst hW2
            have hB2 := hB1.trans (hb2.mono hB1.size)
            have hg2 : w.heap.size ≤ g16 := Nat.le_trans hB1.size hg16
            clear hB1 hb2 hg16
            obtain ⟨xp, xa, xn, xc, xs, ⟨d0, d1⟩, ⟨f0, f1⟩, hXn, hXW⟩ := F16.isW
            have hAb : ((M * P + P).natAbs : Int) < 18446744073709551616 ^ 64 := HB64.out _ (by omega)
            have HAd : Hid (∀ (wx : World) (ya : Option Addr) (yn yc : Nat), (∃ ys, Nums wx ya yn yc ys ∧ IsW false ys P) → Below W2.heap.size W2 wx → Calls Try.prog 42 #[.agg #[.bool xp, .slice xa xn xc], .agg #[.bool false, .slice ya yn yc]] wx fun e w' => ∃ mp ma mn mc, e = .returned (.tuple #[.agg #[.bool mp, .slice ma mn mc], .int .i64 0]) ∧ Hid (∃ ms, Nums w' ma mn mc ms ∧ IsW mp ms (M * P + P)) ∧ Below W2.heap.size W2 w') := by
              rintro wx ya yn yc ⟨ys, hy, hyW⟩ hbx
              refine (refIAdd_any xp false _ _ _ _ _ _ _ _ wx (hXn.below hbx) hy).mono ?_
              rintro e w' ⟨o, oa, ol, oc, os, err, rfl, hO, hres, hb⟩
              have := hres.got hXW.2.1 hyW.2.1
              rw [hXW.2.2, hyW.2.2] at this
              obtain ⟨h3, rfl⟩ := IsW.res this hAb
              exact ⟨o, oa, ol, oc, rfl, ⟨os, hO, h3⟩, hbx.trans (hb.mono hbx.size)⟩
            have hltg := World.block_lt_of_cell? _ _ d0
            clear hAb hXn hXW F16
            go_wp2_with fail
            go_cut [66] from 50 to 85 (fun _ wx => Fac wx g16 (M * P + P) ∧ Below w.heap.size w wx)
            case first =>
              have HW : Hid (Below w.heap.size w W2 ∧ w.heap.size ≤ g16) := ⟨hB2, hg2⟩
              clear HRB KN HNn HRM HB64 HP HLe hPM hPM0 hRb hMb hMp hB2 hg2
              go_region_with (first
                | (go_at_call 40; refine (HPw.out W2 _ ?_).mono ?_; (exact ⟨rfl, rfl, rfl, Nat.le_refl _, fun _ _ => rfl⟩); rintro e w3 ⟨ya, yn, yc, rfl, hY, hc3, hf3, hs3⟩; clear hc3 hf3 hs3; have q0 := bkeep hY.2 d0 rfl; have q1 := bkeep hY.2 d1 rfl)
                | (go_at_call 42; refine (HAd.out _ ya yn yc ?_ ?_).mono ?_; (obtain ⟨ys, h1, h2⟩ := hY.1.out; exact ⟨ys, h1.alike (fun _ => rfl), h2⟩); (exact ⟨hY.2.os, hY.2.tape, hY.2.output, hY.2.size, hY.2.block⟩); rintro e w4 ⟨mp, ma, mn, mc, rfl, hM, hb4⟩; have q2 := bkeep hb4 d0 rfl; have q3 := bkeep hb4 d1 rfl; have q4 := ((bcell hb4).2 _ 0 hltg).trans f0; have q5 := ((bcell hb4).2 _ 1 hltg).trans f1))
              all_goals
                clear HPw HAd hY
                go_wp2_with fail
                go_meet
                case rel =>
                  obtain ⟨ms, hMs, hMW⟩ := hM.out
                  have hb := HW.out.1.trans (hb4.mono HW.out.1.size)
                  have hbb := (hb.setCell (p := ⟨g16, 0, none⟩) HW.out.2 (.bool mp)).setCell (p := ⟨g16, 1, none⟩) HW.out.2 (.slice ma mn mc)
                  exact ⟨(fac_put q2 q3 q4 q5 hMs hMW.2.1 hMW.2.2).alike (fun _ => rfl) (fun _ => rfl), ⟨hbb.os, hbb.tape, hbb.output, hbb.size, hbb.block⟩⟩
            case rest =>
              obtain ⟨F16, hB3⟩ := hcut
              clear HAd d0 d1 f0 f1 hltg hB2 HPw
              obtain ⟨W3, hW3⟩ : ∃ W3, W3 = wc := ⟨_, rfl⟩
              subst hW3
              obtain ⟨xp, xa, xn, xc, xs, ⟨d0, d1⟩, ⟨f0, f1⟩, hXn, hXW⟩ := F16.isW
              have hAb : ((M * P + P - 1).natAbs : Int) < 18446744073709551616 ^ 64 := HB64.out _ (by omega)
              have HOf : Hid (∀ (wx : World), Below W3.heap.size W3 wx → Calls Try.prog 39 #[.int .i64 1] wx fun e w' => ∃ ya yn yc, e = .returned (.agg #[.bool false, .slice ya yn yc]) ∧ Hid (∃ ys, Nums w' ya yn yc ys ∧ IsW false ys 1) ∧ Below W3.heap.size W3 w') := by
                intro wx hbx
                refine (refIOf_any 1 wx (by omega)).mono ?_
                rintro e w' ⟨ya, yn, yc, rfl, hY, hb⟩
                exact ⟨ya, yn, yc, rfl, ⟨_, hY, IsW.of (x := 1) (by omega)⟩, hbx.trans (hb.mono hbx.size)⟩
              have HSu : Hid (∀ (wx : World) (ya : Option Addr) (yn yc : Nat), (∃ ys, Nums wx ya yn yc ys ∧ IsW false ys 1) → Below W3.heap.size W3 wx → Calls Try.prog 49 #[.agg #[.bool xp, .slice xa xn xc], .agg #[.bool false, .slice ya yn yc]] wx fun e w' => ∃ mp ma mn mc, e = .returned (.tuple #[.agg #[.bool mp, .slice ma mn mc], .int .i64 0]) ∧ Hid (∃ ms, Nums w' ma mn mc ms ∧ IsW mp ms (M * P + P - 1)) ∧ Below W3.heap.size W3 w') := by
                rintro wx ya yn yc ⟨ys, hy, hyW⟩ hbx
                refine (refISub_any xp false _ _ _ _ _ _ _ _ wx (hXn.below hbx) hy).mono ?_
                rintro e w' ⟨o, oa, ol, oc, os, err, rfl, hO, hres, hb⟩
                have := hres.got hXW.2.1 hyW.2.1
                rw [hXW.2.2, hyW.2.2] at this
                obtain ⟨h3, rfl⟩ := IsW.res this hAb
                exact ⟨o, oa, ol, oc, rfl, ⟨os, hO, h3⟩, hbx.trans (hb.mono hbx.size)⟩
              have hltg := World.block_lt_of_cell? _ _ d0
              clear hAb hXn hXW F16 HB64
              go_wp2_with fail
              go_cut [73] from 50 to 85 (fun _ wx => Fac wx g16 (M * P + P - 1) ∧ Below w.heap.size w wx)
              case first =>
                have HW : Hid (Below w.heap.size w W3 ∧ w.heap.size ≤ g16) := ⟨hB3, hg2⟩
                clear HRB KN HNn HRM HP HLe hPM hPM0 hRb hMb hMp hB3 hg2
                go_region_with (first
                  | (go_at_call 39; refine (HOf.out _ ?_).mono ?_; (exact ⟨rfl, rfl, rfl, Nat.le_refl _, fun _ _ => rfl⟩); rintro e w3 ⟨ya, yn, yc, rfl, hY, hb3⟩; have q0 := bkeep hb3 d0 rfl; have q1 := bkeep hb3 d1 rfl)
                  | (go_at_call 49; refine (HSu.out _ ya yn yc ?_ ?_).mono ?_; (obtain ⟨ys, h1, h2⟩ := hY.out; exact ⟨ys, h1.alike (fun _ => rfl), h2⟩); (exact ⟨hb3.os, hb3.tape, hb3.output, hb3.size, hb3.block⟩); rintro e w4 ⟨mp, ma, mn, mc, rfl, hM, hb4⟩; have q2 := bkeep hb4 d0 rfl; have q3 := bkeep hb4 d1 rfl; have q4 := ((bcell hb4).2 _ 0 hltg).trans f0; have q5 := ((bcell hb4).2 _ 1 hltg).trans f1))
                all_goals
                  clear HOf HSu hY
                  go_wp2_with fail
                  go_meet
                  case rel =>
                    obtain ⟨ms, hMs, hMW⟩ := hM.out
                    have hb := HW.out.1.trans (hb4.mono HW.out.1.size)
                    have hbb := (hb.setCell (p := ⟨g16, 0, none⟩) HW.out.2 (.bool mp)).setCell (p := ⟨g16, 1, none⟩) HW.out.2 (.slice ma mn mc)
                    exact ⟨(fac_put q2 q3 q4 q5 hMs hMW.2.1 hMW.2.2).alike (fun _ => rfl) (fun _ => rfl), ⟨hbb.os, hbb.tape, hbb.output, hbb.size, hbb.block⟩⟩
              case rest =>
                obtain ⟨F16, hB4⟩ := hcut
                clear HOf HSu d0 d1 f0 f1 hltg hB3
                obtain ⟨W4, hW4⟩ : ∃ W4, W4 = wc := ⟨_, rfl⟩
                subst hW4
                obtain ⟨xp, xa, xn, xc, xs, ⟨d0, d1⟩, -, hXn, hXW⟩ := F16.isW
                have hmag := hXW.mag
                have hN4 := KN.out _ hB4
                have HHf : Hid (∀ wx, Below W4.heap.size W4 wx → Calls Try.prog 30 #[.slice a la ca] wx fun e w' => ∃ ya yn yc, e = .returned (.slice ya yn yc) ∧ Hid (∃ ys, Nums w' ya yn yc ys ∧ IsN ys (hlf (nv ns))) ∧ Below W4.heap.size W4 w') := by
                  intro wx hbx
                  refine (r7half_any _ _ _ _ _ wx (hN4.below hbx) HNn.out.1 (by have := HNn.out.2; omega)).mono ?_
                  rintro e w' ⟨ya, yn, yc, ys, rfl, hY, hI, hb⟩
                  exact ⟨ya, yn, yc, rfl, ⟨ys, hY, hI⟩, hbx.trans (hb.mono hbx.size)⟩
                have HCm : Hid (∀ (wx : World) (ya : Option Addr) (yn yc : Nat), (∃ ys, Nums wx ya yn yc ys ∧ IsN ys (hlf (nv ns))) → Below W4.heap.size W4 wx → Calls Try.prog 29 #[.slice xa xn xc, .slice ya yn yc] wx fun e w' => e = .returned (.int .i64 (cmpZ ((M * P + P - 1).natAbs : Int) (hlf (nv ns) : Int))) ∧ Below W4.heap.size W4 w') := by
                  rintro wx ya yn yc ⟨ys, hy, hI⟩ hbx
                  refine (refCmp_any _ _ _ _ _ _ _ _ _ (hXn.below hbx) hy).mono ?_
                  rintro e w' ⟨rfl, hb⟩
                  exact ⟨by rw [cmpN_nat hmag hI], hbx.trans (hb.mono hbx.size)⟩
                have hui := cmpZ_le0 (x := ((M * P + P - 1).natAbs : Int)) (y := (hlf (nv ns) : Int))
                obtain ⟨u, hu⟩ : ∃ u, u = cmpZ ((M * P + P - 1).natAbs : Int) (hlf (nv ns) : Int) := ⟨_, rfl⟩
                rw [← hu] at HCm hui
                have HU : Hid (u ≤ 0 ↔ M * P + P - 1 ≤ (hlf (nv ns) : Int)) := by show _ ↔ _; rw [hui]; omega
                obtain ⟨ub, hub⟩ : ∃ ub, ub = decide (0 < u) := ⟨_, rfl⟩
                have HUb : Hid (ub = decide (0 < u)) := hub
                have HMP : Hid (M * P + P - 1 = r * m * 2 ^ t + 2 ^ t - 1) := by show _ = _; rw [HP.out, HRM.out.2]
                clear hub hu hui hmag hXn hXW F16 hN4 KN HNn HRM HP hPM hPM0 hRb hMb hMp
                go_wp2_with fail
                go_cut [84] from 50 to 85 (fun v wx => v = .bool ub ∧ Below W4.heap.size W4 wx)
                case first =>
                  clear HRB HLe HU HMP hB4 hg2
                  go_region_with (first
                    | (go_at_call 30; refine (HHf.out _ ?_).mono ?_; (exact ⟨rfl, rfl, rfl, Nat.le_refl _, fun _ _ => rfl⟩); rintro e w3 ⟨ya, yn, yc, rfl, hY, hb3⟩; have q0 := bkeep hb3 d0 rfl; have q1 := bkeep hb3 d1 rfl)
                    | (go_at_call 29; refine (HCm.out _ ya yn yc ?_ ?_).mono ?_; (obtain ⟨ys, h1, h2⟩ := hY.out; exact ⟨ys, h1.alike (fun _ => rfl), h2⟩); (exact ⟨hb3.os, hb3.tape, hb3.output, hb3.size, hb3.block⟩); rintro e w4 ⟨rfl, hb4⟩))
                  all_goals
                    clear HHf HCm hY
                    go_wp2_with fail
                    go_meet
                    case rel => exact ⟨by rw [HUb.out], ⟨hb4.os, hb4.tape, hb4.output, hb4.size, hb4.block⟩⟩
                case rest =>
                  obtain ⟨rfl, hbc⟩ := hcut
                  have hB5 := hB4.trans (hbc.mono hB4.size)
                  clear HHf HCm d0 d1 hB4 hbc
                  by_cases hfit : M * P + P - 1 ≤ (hlf (nv ns) : Int)
                  · obtain rfl : ub = false := HUb.out.trans (decide_eq_false (by have := HU.out.2 hfit; omega))
                    have HF : Hid (ResRoom ns r m k (t : Int) 0) := room_yes HRB.out ht HLe.out (by rw [← HMP.out]; exact hfit)
                    clear HU HUb hfit
                    go_wp2
                    go_ret2
                    exact ⟨(t : Int), 0, rfl, HF.out, hB5⟩
                  · obtain rfl : ub = true := HUb.out.trans (decide_eq_true (by
                      rcases Int.lt_or_le 0 u with c | c
                      · exact c
                      · exact absurd (HU.out.1 c) hfit))
                    have HF : Hid (ResRoom ns r m k 0 12) := room_full HRB.out HLe.out (by rw [← HMP.out]; exact hfit)
                    clear HU HUb hfit
                    go_wp2
                    go_ret2
                    exact ⟨0, 12, rfl, HF.out, hB5⟩
        · obtain rfl : tb = true := HTb.out.trans (decide_eq_true (by
            rcases Int.lt_or_le q 0 with c | c
            · exact absurd (HQ.out.1 c) hlt
            · exact c))
          have HJ2 : Hid (∀ j : Nat, 1 ≤ j → j < t + 1 → (2 : Int) ^ j ≤ r * k) := fun j j1 j2 => by
            rcases Nat.lt_or_ge j t with c | c
            · exact HJ.out j j1 c
            · obtain rfl : j = t := by omega
              rw [← HP.out, ← HRM.out.1]
              omega
          clear HTb HQ HJ F2c hB1 HPw HMul HB64 HRB KN HNn HRM HP
          go_wp2
          go_roundw
          case rel => exact ⟨t + 1, by omega, by omega, by go_num, HJ2, hb1U⟩
          case measure => simp [intOf]; omega
    · obtain rfl : t = 63 := by omega
      have HF : Hid (ResRoom ns r m k 0 12) := room_over HRB.out HJ.out
      clear F1 F2 F1r F2r HJ hbr hBU HMul HB64
      go_wp2
      go_ret2
      exact ⟨0, 12, rfl, HF.out, hBr⟩
end Go.Proofs.Ytambpcgdaogojaa

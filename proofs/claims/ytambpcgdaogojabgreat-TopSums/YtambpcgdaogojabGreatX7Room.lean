/-
  Contracts of package fixenc's product, farthest, room and Room.
-/
import Derived.Test.YtambpcgdaogojabGreatX7P
import Derived.Test.YtambpcgdaogojabGreatNatC
import Derived.Test.YtambpcgdaogojabGreatNatB
import Derived.Test.YtambpcgdaogojabGreatBytA
namespace Go.Proofs.YtambpcgdaogojabGreat
open Go.RowKit

set_option maxHeartbeats 800000 in
theorem fproduct_any (m k : Nat) (w : World) (hm : m < 9223372036854775808) (hk : k < 9223372036854775808) :
    Calls Tryz.prog 42 #[.int .i64 m, .int .i64 k] w fun e w' => TellsN (m * k) w e w' := by
  go_enter Tryz.func42, Tryz.ntmps42
  go_wp2_with fail
  refine (of_any _ _ (by omega)).mono ?_
  rintro e w1 ⟨oa, ol, oc, rfl, hO, hb1⟩
  go_wp2_with fail
  refine (of_any _ _ (by omega)).mono ?_
  rintro e w2 ⟨pa, pl, pc, rfl, hP, hb2⟩
  have hB2 := hb1.trans (hb2.mono hb1.size)
  have hO2 := hO.below hb2
  clear hO hb1 hb2
  go_wp2_with fail
  refine (mul_any _ _ _ _ _ _ _ _ _ hO2 hP).mono ?_
  rintro e w3 ⟨ra, rl, rc, rs, re, rfl, hN, hR, -, hb3⟩
  have hB3 := hB2.trans (hb3.mono hB2.size)
  have HI : Hid (IsN rs (m * k)) := by
    have h1 := IsN.of (x := m) (by omega)
    have h2 := IsN.of (x := k) (by omega)
    have h3 := hR.got h1.2.1 h2.2.1
    rw [h1.2.2, h2.2.2, ← Int.natCast_mul] at h3
    have h4 : m * k ≤ 9223372036854775808 * 9223372036854775808 := Nat.mul_le_mul (by omega) (by omega)
    have h5 : ((9223372036854775808 * 9223372036854775808 : Nat) : Int) < 18446744073709551616 ^ 64 := by decide
    exact (IsN.res h3 (by omega)).1
  clear hR hO2 hP hB2 hb3
  go_wp2
  go_ret
  exact ⟨ra, rl, rc, rs, rfl, hN, HI.out, hB3⟩

theorem pow62n {n : Nat} (h : n ≤ 62) : 1 ≤ 2 ^ n ∧ 2 ^ n ≤ 4611686018427387904 := by
  have h1 : 2 ^ n ≤ 2 ^ 62 := Nat.pow_le_pow_right (by omega) h
  have h2 : 0 < 2 ^ n := Nat.pow_pos (by omega)
  omega

set_option maxRecDepth 20000 in
set_option maxHeartbeats 1600000 in
theorem farthest_any (r m n : Nat) (k : Int) (w : World) (hr : 1 ≤ r ∧ r < 9223372036854775808) (hm : 1 ≤ m ∧ m < 9223372036854775808) (hn : n ≤ 62) :
    Calls Tryz.prog 45 #[.agg #[.int .i64 r, .int .i64 m, .int .i64 k], .int .i64 n] w fun e w' => TellsN (r * m * 2 ^ n + (2 ^ n - 1)) w e w' := by
  have hV := (Below.refl w.heap.size w).alloc (Nat.le_refl _) (.cells #[.int .i64 r, .int .i64 m, .int .i64 k] 56)
  obtain ⟨P, hP⟩ : ∃ P : Nat, P = 2 ^ n := ⟨_, rfl⟩
  have hP1 := pow62n hn
  rw [← hP] at hP1
  have hPi : ((P : Nat) : Int) = 2 ^ (n : Int).toNat := by rw [hP, Int.toNat_natCast, Int.natCast_pow]; rfl
  have HSt : Hid (∀ wx, Calls Tryz.prog 46 #[.int .i64 (n : Int)] wx fun e w' => e = .returned (.int .i64 (P : Int)) ∧ wx = w') := fun wx => by
    rw [hPi]
    exact (fstep_any (n : Int) wx (by omega)).mono (fun e w' h => ⟨h.1, h.2.symm⟩)
  have h4 : r * m ≤ 9223372036854775808 * 9223372036854775808 := Nat.mul_le_mul (by omega) (by omega)
  have h5 : r * m * P ≤ 9223372036854775808 * 9223372036854775808 * 4611686018427387904 := Nat.mul_le_mul h4 hP1.2
  have h6 : ((9223372036854775808 * 9223372036854775808 * 4611686018427387904 + 4611686018427387904 : Nat) : Int) < 18446744073709551616 ^ 64 := by decide
  have h7 : 0 < r * m := Nat.mul_pos (by omega) (by omega)
  have HV1 : Hid (((r * m * P : Nat) : Int) < 18446744073709551616 ^ 64 ∧ ((r * m * P + (P - 1) : Nat) : Int) < 18446744073709551616 ^ 64 ∧ 0 < r * m) := by show _ ∧ _; exact ⟨by omega, by omega, h7⟩
  have HPi : Hid (((P : Nat) : Int) = 2 ^ (n : Int).toNat) := hPi
  rw [← hP]
  clear h4 h5 h6 h7 hPi hP
  go_enter Tryz.func45, Tryz.ntmps45
  go_wp2_with fail
  refine (fproduct_any r m _ hr.2 hm.2).mono ?_
  rintro e w1 ⟨pa, pl, pc, ps, rfl, hP, hp, hb1⟩
  have hB1 := hV.trans (hb1.mono hV.size)
  clear hV hb1
  go_wp2_with fail
  refine (shl_any _ _ _ _ (n : Int) _ hP (by omega)).mono ?_
  rintro e w2 ⟨sa, sl, sc, ss, se, rfl, hS, hR, -, hb2⟩
  have hB2 := hB1.trans (hb2.mono hB1.size)
  have hs : IsN ss (r * m * P) := by
    have hpos := hp.pos HV1.out.2.2
    unfold ResShl at hR
    rw [hp.2.1, decide_eq_true (show (0 : Int) ≤ (n : Int) by omega), if_pos (by rfl), if_neg (by omega), if_neg (by omega), hp.2.2, ← HPi.out, ← Int.natCast_mul] at hR
    exact (IsN.res hR HV1.out.1).1
  clear hR hP hp hB1 hb2
  go_wp2_with fail
  refine (HSt.out _).mono ?_
  rintro e w3 ⟨rfl, rfl⟩
  clear HSt
  have hp1i : IntKind.i64.wrap ((P : Int) - 1) = (P : Int) - 1 := by
    simp only [IntKind.wrap, IntKind.signed, IntKind.bits]
    simp
    omega
  go_wp2_with fail
  refine (of_any _ _ (by omega)).mono ?_
  rintro e w4 ⟨oa, ol, oc, rfl, hO, hb4⟩
  rw [show (P : Int) - 1 = ((P - 1 : Nat) : Int) by omega] at hO
  have hB4 := hB2.trans (hb4.mono hB2.size)
  have hS4 := hS.below hb4
  clear hS hB2 hb4
  go_wp2_with fail
  refine (add_any _ _ _ _ _ _ _ _ _ hS4 hO).mono ?_
  rintro e w5 ⟨ra, rl, rc, rs, re, rfl, hN, hR, -, hb5⟩
  have hB5 := hB4.trans (hb5.mono hB4.size)
  have HI : Hid (IsN rs (r * m * P + (P - 1))) := by
    have h2 := IsN.of (x := P - 1) (by omega)
    have h3 := hR.got hs.2.1 h2.2.1
    rw [hs.2.2, h2.2.2, ← Int.natCast_add] at h3
    exact (IsN.res h3 HV1.out.2.1).1
  clear hR hS4 hO hB4 hb5 hs
  go_wp2
  go_ret
  exact ⟨ra, rl, rc, rs, rfl, hN, HI.out, hB5⟩

/-- The bits of a product are the least shift that it wants. -/
theorem least_bits {r k : Int} {V : Nat} {ls : List Int} (h : IsN ls V) (hV : (V : Int) = r * k) (h0 : 0 < V) : ∃ t : Nat, bitsZ ls = (t : Int) ∧ LeastT r k t := by
  obtain ⟨b0, -, b1⟩ := bits_lt h.1 h.2.1 h.2.2
  have hp := h.pos h0
  obtain ⟨c0, c1⟩ := bits_ge h.1 h.2.1 h.2.2 (by omega)
  obtain ⟨t, ht⟩ := Int.eq_ofNat_of_zero_le b0
  rw [ht] at b1 c0 c1
  rw [Int.toNat_natCast] at b1 c1
  refine ⟨t, ht, by omega, ?_, fun j j1 j2 => ?_⟩
  · rw [← hV]
    have e : (2 : Int) ^ t = ((2 ^ t : Nat) : Int) := by rw [Int.natCast_pow]; rfl
    rw [e]; omega
  · rw [← hV]
    have e : (2 : Int) ^ j = ((2 ^ j : Nat) : Int) := by rw [Int.natCast_pow]; rfl
    have h2 : 2 ^ j ≤ 2 ^ (t - 1) := Nat.pow_le_pow_right (by omega) (by omega)
    rw [e]; omega

set_option maxRecDepth 20000 in
set_option maxHeartbeats 6400000 in
theorem mroom_any (a ha : Option Addr) (la ca hl hc : Nat) (ns hs : List Int) (r m k : Int) (w : World) (hH : Nums w ha hl hc hs) (hmod : modB ns = true) (hI : IsN hs (hlf (nv ns)))
    (hr : -9223372036854775808 ≤ r ∧ r < 9223372036854775808) (hm : -9223372036854775808 ≤ m ∧ m < 9223372036854775808) (hk : -9223372036854775808 ≤ k ∧ k < 9223372036854775808) :
    Calls Tryz.prog 18 #[.agg #[.slice a la ca, .slice ha hl hc], .agg #[.int .i64 r, .int .i64 m, .int .i64 k]] w fun e w' => RoomT ns r m k w e w' := by
  have hV := ((Below.refl w.heap.size w).alloc (Nat.le_refl _) (.cells #[.slice a la ca, .slice ha hl hc] 60)).alloc (by simp) (.cells #[.int .i64 r, .int .i64 m, .int .i64 k] 56)
  by_cases r1 : r < 1
  · have HF : Hid (ResRoom ns r m k 0 1) := room_no (by unfold roomB; rw [decide_eq_false (show ¬ 1 ≤ r by omega), Bool.false_and, Bool.and_false])
    clear hH hI hr hm hk
    go_enter Tryz.func18, Tryz.ntmps18
    go_wp2
    go_ret2
    exact ⟨0, 1, rfl, HF.out, hV⟩
  have dr : decide (r < 1) = false := decide_eq_false r1
  by_cases m1 : m < 1
  · have HF : Hid (ResRoom ns r m k 0 1) := room_no (by unfold roomB; rw [decide_eq_false (show ¬ 1 ≤ m by omega), Bool.false_and, Bool.and_false, Bool.and_false])
    clear hH hI hr hm hk
    go_enter Tryz.func18, Tryz.ntmps18
    go_wp2
    go_ret2
    exact ⟨0, 1, rfl, HF.out, hV⟩
  have dm : decide (m < 1) = false := decide_eq_false m1
  by_cases k1 : k < 1
  · have HF : Hid (ResRoom ns r m k 0 1) := room_no (by unfold roomB; rw [decide_eq_false (show ¬ 1 ≤ k by omega), Bool.and_false, Bool.and_false, Bool.and_false])
    clear hH hI hr hm hk
    go_enter Tryz.func18, Tryz.ntmps18
    go_wp2
    go_ret2
    exact ⟨0, 1, rfl, HF.out, hV⟩
  have dk : decide (k < 1) = false := decide_eq_false k1
  have hrB : roomB ns r m k = true := by unfold roomB; rw [hmod, decide_eq_true (show 1 ≤ r by omega), decide_eq_true (show 1 ≤ m by omega), decide_eq_true (show 1 ≤ k by omega)]; rfl
  obtain ⟨R, rfl⟩ := Int.eq_ofNat_of_zero_le (show 0 ≤ r by omega)
  obtain ⟨M, rfl⟩ := Int.eq_ofNat_of_zero_le (show 0 ≤ m by omega)
  obtain ⟨K, rfl⟩ := Int.eq_ofNat_of_zero_le (show 0 ≤ k by omega)
  have HRB : Hid (roomB ns (R : Int) (M : Int) (K : Int) = true) := hrB
  clear hrB
  go_enter Tryz.func18, Tryz.ntmps18
  go_wp2_with fail
  refine (fproduct_any R K _ (by omega) (by omega)).mono ?_
  rintro e w1 ⟨pa, pl, pc, ps, rfl, hP, hp, hb1⟩
  obtain ⟨⟨c0, c1⟩, d0, d1, d2⟩ := held23 hb1
  have hB1 := hV.trans (hb1.mono hV.size)
  have hH1 := hH.below hB1
  obtain ⟨t, ht, hL⟩ := least_bits (r := (R : Int)) (k := (K : Int)) hp (by rw [Int.natCast_mul]) (Nat.mul_pos (by omega) (by omega))
  have HL : Hid (LeastT (R : Int) (K : Int) t) := hL
  have HBi := (show Hid _ from bits_any _ _ _ _ _ hP)
  rw [ht] at HBi
  have t1 : 1 ≤ t := hL.1
  clear hV hb1 hP hp hH ht hL
  go_wp2_with fail
  refine Calls.mono HBi.out ?_
  rintro e w2 ⟨rfl, rfl⟩
  clear HBi
  by_cases t62 : t ≤ 62
  · have hsB : shB (t : Int) = true := (shB_iff _).2 ⟨by omega, by omega⟩
    have HIs : Hid (∀ wx, Calls Tryz.prog 43 #[.int .i64 (t : Int)] wx fun e w' => e = .returned (.bool true) ∧ wx = w') := fun wx => by
      rw [← hsB]
      exact (isshift_any (t : Int) wx).mono (fun e w' h => ⟨h.1, h.2.symm⟩)
    have HFa : Hid (∀ wx, Below w2.heap.size w2 wx → Calls Tryz.prog 45 #[.agg #[.int .i64 (R : Int), .int .i64 (M : Int), .int .i64 (K : Int)], .int .i64 (t : Int)] wx fun e w' => ∃ fa fl fc, e = .returned (.slice fa fl fc) ∧ Hid (∃ fs, Nums w' fa fl fc fs ∧ IsN fs (R * M * 2 ^ t + (2 ^ t - 1)) ∧ Below w2.heap.size w2 w') ∧ w'.cell? ⟨w.heap.size, 1, none⟩ = some (.slice ha hl hc)) := by
      intro wx hbx
      refine (farthest_any R M t (K : Int) wx (by omega) (by omega) t62).mono ?_
      rintro e w' ⟨fa, fl, fc, fs, rfl, hF, hf, hb⟩
      have hb' := hbx.trans (hb.mono hbx.size)
      exact ⟨fa, fl, fc, rfl, ⟨fs, hF, hf, hb'⟩, bkeep hb' c1 rfl⟩
    obtain ⟨q, hq⟩ : ∃ q, q = cmpZ ((R * M * 2 ^ t + (2 ^ t - 1) : Nat) : Int) (hlf (nv ns) : Int) := ⟨_, rfl⟩
    have hqi := cmpZ_le0 (x := ((R * M * 2 ^ t + (2 ^ t - 1) : Nat) : Int)) (y := (hlf (nv ns) : Int))
    rw [← hq] at hqi
    have HCm : Hid (∀ wx fa fl fc, (∃ fs, Nums wx fa fl fc fs ∧ IsN fs (R * M * 2 ^ t + (2 ^ t - 1)) ∧ Below w2.heap.size w2 wx) → Calls Tryz.prog 44 #[.slice fa fl fc, .slice ha hl hc] wx fun e w' => e = .returned (.int .i64 q) ∧ Below w2.heap.size w2 w') := by
      rintro wx fa fl fc ⟨fs, hF, hf, hbx⟩
      refine (cmp_any _ _ _ _ _ _ _ _ _ hF (hH1.below hbx)).mono ?_
      rintro e w' ⟨rfl, hb⟩
      exact ⟨by rw [cmpN_nat hf hI, hq], hbx.trans (hb.mono hbx.size)⟩
    have hP1 := pow62n t62
    have e2 : (R : Int) * (M : Int) * 2 ^ t + 2 ^ t - 1 = ((R * M * 2 ^ t + (2 ^ t - 1) : Nat) : Int) := by
      have e : (2 : Int) ^ t = ((2 ^ t : Nat) : Int) := by rw [Int.natCast_pow]; rfl
      rw [e, ← Int.natCast_mul, ← Int.natCast_mul]
      omega
    obtain ⟨qb, hqb⟩ : ∃ qb, qb = decide (0 < q) := ⟨_, rfl⟩
    have HQb : Hid (qb = decide (0 < q)) := hqb
    have HQ : Hid (q ≤ 0 ↔ (R : Int) * (M : Int) * 2 ^ t + 2 ^ t - 1 ≤ (hlf (nv ns) : Int)) := by show _ ↔ _; rw [e2]; exact hqi
    clear hq hqi hP1 e2 hqb hH1 hI
    go_wp2_with fail
    go_cut [37] (fun v wx => v = .bool qb ∧ Below w2.heap.size w2 wx)
    case first =>
      clear hB1 HQ HRB HL hr hm hk
      go_region_with (first
        | (go_at_call 43; refine (HIs.out _).mono ?_; rintro e w3 ⟨rfl, rfl⟩)
        | (go_at_call 45; refine (HFa.out _ ?_).mono ?_; (exact ⟨rfl, rfl, rfl, Nat.le_refl _, fun _ _ => rfl⟩); rintro e w4 ⟨fa, fl, fc, rfl, hF, k0⟩)
        | (go_at_call 44; refine (HCm.out _ _ _ _ ?_).mono ?_; (exact hF.out); rintro e w5 ⟨rfl, hb5⟩))
      all_goals
        clear HIs HFa HCm
        go_wp2_with fail
        go_meet
        case rel => exact ⟨by first | rw [HQb.out] | (rw [HQb.out]; simp) | simp [HQb.out], hb5⟩
    case rest =>
      obtain ⟨rfl, hbc⟩ := hcut
      have hBc := hB1.trans (hbc.mono hB1.size)
      clear HIs HFa HCm hbc hB1 c0 c1 d0 d1 d2
      by_cases hfit : (R : Int) * (M : Int) * 2 ^ t + 2 ^ t - 1 ≤ (hlf (nv ns) : Int)
      · obtain rfl : qb = false := HQb.out.trans (decide_eq_false (by have := HQ.out.2 hfit; omega))
        have HF : Hid (ResRoom ns (R : Int) (M : Int) (K : Int) (t : Int) 0) := room_yes HRB.out t62 HL.out hfit
        clear HQ HQb hfit HL HRB
        go_wp2
        go_ret2
        exact ⟨(t : Int), 0, rfl, HF.out, hBc⟩
      · obtain rfl : qb = true := HQb.out.trans (decide_eq_true (by
          rcases Int.lt_or_le 0 q with c | c
          · exact c
          · exact absurd (HQ.out.1 c) hfit))
        have HF : Hid (ResRoom ns (R : Int) (M : Int) (K : Int) 0 12) := room_full HRB.out HL.out hfit
        clear HQ HQb hfit HL HRB
        go_wp2
        go_ret2
        exact ⟨0, 12, rfl, HF.out, hBc⟩
  · have hsB : shB (t : Int) = false := by
      cases h : shB (t : Int) with
      | false => rfl
      | true => have := (shB_iff _).1 h; omega
    have HIs : Hid (∀ wx, Calls Tryz.prog 43 #[.int .i64 (t : Int)] wx fun e w' => e = .returned (.bool false) ∧ w' = wx) := fun wx => by
      rw [← hsB]
      exact isshift_any (t : Int) wx
    have HF : Hid (ResRoom ns (R : Int) (M : Int) (K : Int) 0 12) := .inr (.inr ⟨HRB.out, fun u hu hU => by have := HL.out.unique hU; omega, rfl, rfl⟩)
    clear hH1 hI HL HRB
    go_wp2_with fail
    go_quiet ((go_at_call 43; exact Calls.quiet_of_same (HIs.out _)))
    clear HIs
    go_wp2
    go_ret2
    exact ⟨0, 12, rfl, HF.out, hB1.os, hB1.tape, hB1.output, hB1.size, hB1.block⟩

set_option maxRecDepth 20000 in
set_option maxHeartbeats 3200000 in
theorem askR_any (a : Option Addr) (la ca : Nat) (ns : List Int) (r m k : Int) (w : World) (hN : Nums w a la ca ns) (hr : -9223372036854775808 ≤ r ∧ r < 9223372036854775808) (hm : -9223372036854775808 ≤ m ∧ m < 9223372036854775808) (hk : -9223372036854775808 ≤ k ∧ k < 9223372036854775808) :
    Calls Tryz.prog 17 #[.slice a la ca, .func (.func 18) #[] #[], .agg #[.int .i64 r, .int .i64 m, .int .i64 k]] w fun e w' => RoomT ns r m k w e w' := by
  have hV := (Below.refl w.heap.size w).alloc (Nat.le_refl _) (.cells #[.int .i64 r, .int .i64 m, .int .i64 k] 56)
  have kk := hN.below hV
  have HM := (show Hid _ from ismod_any _ _ _ _ _ kk)
  have hE := Tryz.call18
  clear hN
  go_enter Tryz.func17, Tryz.ntmps17
  go_wp2_with fail
  refine Calls.mono HM.out ?_
  rintro e w1 ⟨rfl, hb1⟩
  obtain ⟨c0, c1, c2⟩ := held3 hb1
  have hB1 := hV.trans (hb1.mono hV.size)
  replace kk := kk.below hb1
  clear HM hV hb1
  cases hmo : modB ns with
  | false =>
    have HF : Hid (ResRoom ns r m k 0 1) := room_no (by unfold roomB; rw [hmo]; rfl)
    clear kk c0 c1 c2 hE
    go_wp2
    go_ret2
    exact ⟨0, 1, rfl, HF.out, hB1⟩
  | true =>
    obtain ⟨rn, n8, n3⟩ := (modB_iff ns).1 hmo
    have hn := IsN.self kk.digs rn
    have HMo : Hid (∀ wx, Below w1.heap.size w1 wx → Calls Tryz.prog 40 #[.slice a la ca] wx fun e w' => ∃ ha hl hc, e = .returned (.agg #[.slice a la ca, .slice ha hl hc]) ∧ Hid (∃ hs, Nums w' ha hl hc hs ∧ IsN hs (hlf (nv ns)) ∧ Below w1.heap.size w1 w') ∧ w'.cell? ⟨w.heap.size, 0, none⟩ = some (.int .i64 r) ∧ w'.cell? ⟨w.heap.size, 1, none⟩ = some (.int .i64 m) ∧ w'.cell? ⟨w.heap.size, 2, none⟩ = some (.int .i64 k)) := by
      intro wx hbx
      refine (modof_any _ _ _ _ _ wx (kk.below hbx) hn (by omega)).mono ?_
      rintro e w' ⟨ha, hl, hc, hs, rfl, hN, hI, hb⟩
      have hb' := hbx.trans (hb.mono hbx.size)
      exact ⟨ha, hl, hc, rfl, ⟨hs, hN, hI, hb'⟩, bkeep hb' c0 rfl, bkeep hb' c1 rfl, bkeep hb' c2 rfl⟩
    have HEn : Hid (∀ wx ha hl hc, (∃ hs, Nums wx ha hl hc hs ∧ IsN hs (hlf (nv ns)) ∧ Below w1.heap.size w1 wx) → Calls Tryz.prog 18 #[.agg #[.slice a la ca, .slice ha hl hc], .agg #[.int .i64 r, .int .i64 m, .int .i64 k]] wx fun e w' => ∃ s err, e = .returned (.tuple #[.int .i64 s, .int .i64 err]) ∧ Hid (ResRoom ns r m k s err ∧ Below w.heap.size w w')) := by
      rintro wx ha hl hc ⟨hs, hN, hI, hbx⟩
      refine (mroom_any _ _ _ _ _ _ ns hs r m k wx hN hmo hI hr hm hk).mono ?_
      rintro e w' ⟨s, err, rfl, hT, hb⟩
      have hb' := hbx.trans (hb.mono hbx.size)
      exact ⟨s, err, rfl, hT, hB1.trans (hb'.mono hB1.size)⟩
    clear kk hn hB1 hr hm hk
    go_wp2_with fail
    go_region_with (first
      | (go_at_call 40; refine (HMo.out _ ?_).mono ?_; (exact ⟨rfl, rfl, rfl, Nat.le_refl _, fun _ _ => rfl⟩); rintro e w3 ⟨ha, hl, hc, rfl, hH, k0, k1, k2⟩)
      | (go_at_call 18; refine (HEn.out _ _ _ _ ?_).mono ?_; (obtain ⟨hs, g1, g2, g3⟩ := hH.out; exact ⟨hs, g1.alike (fun _ => rfl), g2, g3.os, g3.tape, g3.output, g3.size, g3.block⟩); rintro e w4 ⟨s, err, rfl, hR⟩))
    all_goals
      clear HMo HEn hH
      go_wp2_with fail
      go_ret2
      obtain ⟨g1, g3⟩ := hR.out
      exact ⟨s, err, rfl, g1, g3.os, g3.tape, g3.output, g3.size, g3.block⟩

set_option maxRecDepth 20000 in
set_option maxHeartbeats 800000 in
theorem rm_ok7 : RmOk := by
  intro a la ca ns r m k w hN hr hm hk
  have HB := (show Hid _ from askR_any _ _ _ _ r m k w hN hr hm hk)
  clear hN hr hm hk
  go_enter Tryz.func6, Tryz.ntmps6
  go_wp2_with fail
  refine Calls.mono HB.out ?_
  rintro e w2 ⟨s, err, rfl, hT, hb2⟩
  have HT : Hid (ResRoom ns r m k s err) := hT
  clear HB hT
  go_wp2
  go_ret2
  exact ⟨s, err, rfl, HT.out, hb2⟩
end Go.Proofs.YtambpcgdaogojabGreat

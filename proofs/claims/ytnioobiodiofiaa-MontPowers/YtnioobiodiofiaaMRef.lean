/-
  Contracts of the document's answers for layer 2: Below, Rest, Times, In, half, Out, Mul.
-/
import Derived.Test.YtnioobiodiofiaaMOps
import Derived.Test.YtnioobiodiofiaaMFresh
import Derived.Test.YtnioobiodiofiaaRefDivA
import Derived.Test.YtnioobiodiofiaaRefMulA
import Derived.Test.YtnioobiodiofiaaOut
import Derived.Test.YtnioobiodiofiaaRefCmp
import Derived.Test.YtnioobiodiofiaaRefMovesA
namespace Go.Proofs.Ytnioobiodiofiaa
open Go.RowKit

set_option maxHeartbeats 800000 in
theorem refBelow_any (a b : Option Addr) (la ca lb cb : Nat) (xs zs : List Int) (w : World) (ha : Nums w a la ca xs) (hb : Nums w b lb cb zs) (hz : rightB zs = true) :
    Calls Try.prog 24 #[.slice a la ca, .slice b lb cb] w fun e w' => e = .returned (.bool (belowB xs zs)) ∧ Below w.heap.size w w' := by
  cases hr : rightB xs with
  | false =>
    have e : belowB xs zs = false := by simp [belowB, hr]
    rw [e]
    go_enter Try.func24, Try.ntmps24
    go_wp2_with fail
    refine (refRight_any _ _ _ _ _ ha).mono ?_
    rintro e w' ⟨rfl, rfl⟩
    rw [hr]
    go_wp2_with fail
    go_ret
    exact ⟨rfl, Below.refl _ _⟩
  | true =>
    have e : belowB xs zs = decide (cmpN xs zs < 0) := by
      simp only [belowB, cmpN, hr, hz, Bool.and_self, if_true, Bool.true_and]
      unfold cmpZ
      split
      · simp_all
      · split <;> simp_all
    rw [e]
    go_enter Try.func24, Try.ntmps24
    go_wp2_with fail
    refine (refRight_any _ _ _ _ _ ha).mono ?_
    rintro e w' ⟨rfl, rfl⟩
    rw [hr]
    go_wp2_with fail
    refine (refCmp_any _ _ _ _ _ _ _ _ _ ha hb).mono ?_
    rintro e w1 ⟨rfl, hb1⟩
    go_wp2_with fail
    go_ret
    exact ⟨rfl, hb1⟩

set_option maxHeartbeats 800000 in
theorem rest_any (a b : Option Addr) (la ca lb cb : Nat) (xs zs : List Int) (w : World) (ha : Nums w a la ca xs) (hb : Nums w b lb cb zs) (hx : rightB xs = true) (hz : rightB zs = true) (h0 : zs.length ≠ 0) :
    Calls Try.prog 26 #[.slice a la ca, .slice b lb cb] w fun e w' => ∃ a' n c' ls, e = .returned (.slice a' n c') ∧ Nums w' a' n c' ls ∧ rightB ls = true ∧ val 18446744073709551616 ls = val 18446744073709551616 xs % val 18446744073709551616 zs ∧ Below w.heap.size w w' := by
  go_enter Try.func26, Try.ntmps26
  go_wp2_with fail
  refine (refDiv_any _ _ _ _ _ _ _ _ _ ha hb).mono ?_
  rintro e w1 ⟨qa, qn, qc, qs, ra, rn, rc, rs, re, rfl, hq, hrs, hdr, hb1⟩
  have HQ : Hid (rightB rs = true ∧ val 18446744073709551616 rs = val 18446744073709551616 xs % val 18446744073709551616 zs) := by
    unfold ResDiv at hdr
    rw [hx, hz, if_pos (show (true && true) = true from rfl), if_neg h0] at hdr
    obtain ⟨_, d1, d2, d3, d4, d5, d6⟩ := hdr
    exact ⟨d4, d6⟩
  clear hdr hq
  go_wp2_with fail
  go_ret
  exact ⟨_, _, _, _, rfl, hrs, HQ.out.1, HQ.out.2, hb1⟩

/-- What a modulus is, as its laws need it. -/
structure ModOk (zs : List Int) : Prop where
  right : rightB zs = true
  len : 0 < zs.length ∧ zs.length ≤ 8
  odd : val 18446744073709551616 zs % 2 = 1
  three : 3 ≤ val 18446744073709551616 zs

theorem RingOk.modOk {zs qs : List Int} {f : Int} (h : RingOk zs f qs) : ModOk zs := ⟨h.right, h.len, h.oddN, h.three⟩

set_option maxHeartbeats 800000 in
theorem mtimes_any (a b c : Option Addr) (la ca lb cb lc cc : Nat) (xs ys zs : List Int) (w : World) (ha : Nums w a la ca xs) (hb : Nums w b lb cb ys) (hc : Nums w c lc cc zs) (hm : ModOk zs) (hx : belowB xs zs = true) (hy : belowB ys zs = true) :
    Calls Try.prog 19 #[.slice a la ca, .slice b lb cb, .slice c lc cc] w fun e w' => ∃ a' n c' ls, e = .returned (.slice a' n c') ∧ Nums w' a' n c' ls ∧ belowB ls zs = true ∧ val 18446744073709551616 ls = (val 18446744073709551616 xs * val 18446744073709551616 ys) % val 18446744073709551616 zs ∧ Below w.heap.size w w' := by
  obtain ⟨hx1, hx2⟩ := below_parts hx
  obtain ⟨hy1, hy2⟩ := below_parts hy
  have HB := (show Hid _ from prod_bd ha.digs hb.digs hc.digs rfl hm.len.2 hx2 hy2)
  have h0 : zs.length ≠ 0 := by have := hm.len; omega
  clear hx2 hy2 hx hy
  go_enter Try.func19, Try.ntmps19
  go_wp2_with fail
  refine (refMul_any _ _ _ _ _ _ _ _ _ ha hb).mono ?_
  rintro e w1 ⟨a1, k1, c1, ps, e1, rfl, hp, hres, hb1⟩
  have hq : Digs 18446744073709551616 ps ∧ rightB ps = true ∧ val 18446744073709551616 ps = val 18446744073709551616 xs * val 18446744073709551616 ys := by
    unfold Res2 at hres
    rw [hx1, hy1, if_pos (show (true && true) = true from rfl)] at hres
    exact (res_fits hres HB.out.2).2
  have HV : Hid (val 18446744073709551616 ps = val 18446744073709551616 xs * val 18446744073709551616 ys) := hq.2.2
  have hpr := hq.2.1
  clear hres hq
  go_wp2_with fail
  refine (rest_any _ _ _ _ _ _ _ _ _ hp (hc.below hb1) hpr hm.right h0).mono ?_
  rintro e w2 ⟨a2, k2, c2, ls, rfl, hl, hlr, hlv, hb2⟩
  have HQ : Hid (belowB ls zs = true ∧ val 18446744073709551616 ls = (val 18446744073709551616 xs * val 18446744073709551616 ys) % val 18446744073709551616 zs) := by
    have e : val 18446744073709551616 ls = (val 18446744073709551616 xs * val 18446744073709551616 ys) % val 18446744073709551616 zs := by rw [hlv, HV.out]
    refine ⟨below_mk hlr ?_, e⟩
    rw [e]
    exact Int.emod_lt_of_pos _ (by have := hm.three; omega)
  have hB := hb1.trans (hb2.mono hb1.size)
  clear hlv hlr
  go_wp2_with fail
  go_ret
  exact ⟨_, _, _, _, rfl, hl, HQ.out.1, HQ.out.2, hB⟩

set_option maxHeartbeats 800000 in
theorem refIn2_any (a b : Option Addr) (la ca lb cb : Nat) (xs zs : List Int) (w : World) (ha : Nums w a la ca xs) (hb : Nums w b lb cb zs) (hm : ModOk zs) :
    Calls Try.prog 11 #[.slice a la ca, .slice b lb cb] w fun e w' => ∃ a' n c' ls err, e = .returned (.tuple #[.slice a' n c', .int .i64 err]) ∧ Nums w' a' n c' ls ∧
      ResRing (belowB xs zs) zs (val 18446744073709551616 xs * (18446744073709551616 ^ zs.length * 18446744073709551616 ^ zs.length)) ls err ∧ Below w.heap.size w w' := by
  have hzl := hb.hlen
  cases hx : belowB xs zs with
  | false =>
    clear hzl
    go_enter Try.func11, Try.ntmps11
    go_wp2_with fail
    refine (refBelow_any _ _ _ _ _ _ _ _ _ ha hb hm.right).mono ?_
    rintro e w1 ⟨rfl, hb1⟩
    rw [hx]
    go_wp2_with fail
    go_ret2
    exact ⟨none, 0, 0, [], 1, rfl, Nums.nil _, ResRing.bad _ _, hb1⟩
  | true =>
    obtain ⟨hx1, hx2⟩ := below_parts hx
    have HZ : Hid (zs.length = lb ∧ val 18446744073709551616 xs < val 18446744073709551616 zs) := ⟨hzl, hx2⟩
    have hl8 : lb ≤ 8 := by have := hm.len; omega
    have h0 : zs.length ≠ 0 := by have := hm.len; omega
    have hzd := hb.digs
    have hxd := ha.digs
    clear hzl hx2
    go_enter Try.func11, Try.ntmps11
    go_wp2_with fail
    refine (refBelow_any _ _ _ _ _ _ _ _ _ ha hb hm.right).mono ?_
    rintro e w1 ⟨rfl, hb1⟩
    rw [hx]
    go_wp2_with fail
    refine (refShl_any _ _ _ _ (64 * (lb : Int)) _ (ha.below hb1)).mono ?_
    rintro e w2 ⟨sa, sn, sc, ss, se, rfl, hs, hsr, hb2⟩
    have hv : rightB ss = true ∧ val 18446744073709551616 ss = val 18446744073709551616 xs * 18446744073709551616 ^ lb := by
      unfold ResShl at hsr
      rw [hx1, if_pos (by simp; omega)] at hsr
      by_cases hz : xs.length = 0
      · rw [if_pos hz] at hsr
        obtain ⟨_, rfl⟩ := hsr
        rw [List.eq_nil_of_length_eq_zero hz]
        exact ⟨by decide, by simp [val]⟩
      · rw [if_neg hz, if_neg (by omega)] at hsr
        have e3 : val 18446744073709551616 xs * 2 ^ (64 * (lb : Int)).toNat = val 18446744073709551616 xs * 18446744073709551616 ^ lb := by
          rw [pow64]; congr 2
        rw [e3] at hsr
        have lx := val_lt_pow (B := 18446744073709551616) (by decide) hzd hm.len.2
        have a1 := pow_mono (B := 18446744073709551616) (by decide) hl8
        have p0 := pow_pos' (B := 18446744073709551616) (by decide) lb
        have nx := val_nonneg (B := 18446744073709551616) (by decide) hxd
        have a2 : val 18446744073709551616 xs * 18446744073709551616 ^ lb ≤ 18446744073709551616 ^ 8 * 18446744073709551616 ^ 8 := Int.mul_le_mul (by have := HZ.out.2; omega) a1 (by omega) (by decide)
        have a3 : (18446744073709551616 : Int) ^ 8 * 18446744073709551616 ^ 8 < 18446744073709551616 ^ 64 := by decide
        exact ⟨(res_fits hsr (by omega)).2.2.1, (res_fits hsr (by omega)).2.2.2⟩
    have HV : Hid (val 18446744073709551616 ss = val 18446744073709551616 xs * 18446744073709551616 ^ lb) := hv.2
    have hsr' := hv.1
    have hB2 := hb1.trans (hb2.mono hb1.size)
    clear hsr hv hb1 hb2
    go_wp2_with fail
    refine (rest_any _ _ _ _ _ _ _ _ _ hs (hb.below hB2) hsr' hm.right h0).mono ?_
    rintro e w3 ⟨a3, n3, c3, ls, rfl, hl, hlr, hlv, hb3⟩
    have HQ : Hid (Red zs (val 18446744073709551616 xs * (18446744073709551616 ^ zs.length * 18446744073709551616 ^ zs.length)) ls) := by
      have e : val 18446744073709551616 ls = (val 18446744073709551616 xs * 18446744073709551616 ^ zs.length) % val 18446744073709551616 zs := by rw [hlv, HV.out, HZ.out.1]
      refine ⟨hl.digs, right_top hlr, ?_, ?_⟩
      · rw [e]; exact Int.emod_lt_of_pos _ (by have := hm.three; omega)
      · rw [e, Int.mul_emod, Int.emod_emod, ← Int.mul_emod]
        congr 1
        rw [Int.mul_left_comm]
    have hB := hB2.trans (hb3.mono hB2.size)
    clear hlv hlr
    go_wp2_with fail
    go_ret2
    exact ⟨_, _, _, _, _, rfl, hl, ResRing.ok HQ.out, hB⟩

theorem low_par {xs : List Int} (h : 0 < xs.length) : val 18446744073709551616 xs % 2 = xs.getD 0 0 % 2 := by
  obtain ⟨t, e, _⟩ := val_low xs h
  omega

theorem half_end {x n h : Int} (hn : n % 2 = 1) (hx : 0 ≤ x ∧ x < n) (hh : h = (if x % 2 = 1 then (x + n) / 2 else x / 2)) : 0 ≤ h ∧ h < n ∧ (2 * h) % n = x % n := by
  split at hh
  · refine ⟨by omega, by omega, ?_⟩
    have : 2 * h = x + n := by omega
    rw [this, Int.add_emod_right]
  · refine ⟨by omega, by omega, ?_⟩
    have : 2 * h = x := by omega
    rw [this]

set_option maxHeartbeats 800000 in
theorem half_any (a b : Option Addr) (la ca lb cb : Nat) (xs zs : List Int) (w : World) (ha : Nums w a la ca xs) (hb : Nums w b lb cb zs) (hm : ModOk zs) (hx : belowB xs zs = true) :
    Calls Try.prog 28 #[.slice a la ca, .slice b lb cb] w fun e w' => ∃ a' n c' ls, e = .returned (.slice a' n c') ∧ Nums w' a' n c' ls ∧ belowB ls zs = true ∧ (2 * val 18446744073709551616 ls) % val 18446744073709551616 zs = val 18446744073709551616 xs % val 18446744073709551616 zs ∧ Below w.heap.size w w' := by
  obtain ⟨hx1, hx2⟩ := below_parts hx
  have hxl := ha.hlen
  have nx := val_nonneg (B := 18446744073709551616) (by decide) ha.digs
  have HF : Hid (∀ (ys ls : List Int) (e : Int), rightB ys = true → val 18446744073709551616 ys = (if val 18446744073709551616 xs % 2 = 1 then val 18446744073709551616 xs + val 18446744073709551616 zs else val 18446744073709551616 xs) → ResShr ys 1 ls e → belowB ls zs = true ∧ (2 * val 18446744073709551616 ls) % val 18446744073709551616 zs = val 18446744073709551616 xs % val 18446744073709551616 zs) := by
    intro ys ls e hy hv hs
    unfold ResShr at hs
    rw [hy, if_pos (by simp)] at hs
    obtain ⟨_, d1, d2, d3, d4⟩ := hs
    have e1 : val 18446744073709551616 ls = (if val 18446744073709551616 xs % 2 = 1 then (val 18446744073709551616 xs + val 18446744073709551616 zs) / 2 else val 18446744073709551616 xs / 2) := by
      rw [d4, hv]
      have : (2 : Int) ^ (1 : Int).toNat = 2 := by decide
      rw [this]
      split <;> rfl
    obtain ⟨q1, q2, q3⟩ := half_end hm.odd ⟨nx, hx2⟩ e1
    exact ⟨below_mk (right_mk d3 d2) q2, q3⟩
  by_cases h0 : la = 0
  · subst h0
    have hv : val 18446744073709551616 xs = (if val 18446744073709551616 xs % 2 = 1 then val 18446744073709551616 xs + val 18446744073709551616 zs else val 18446744073709551616 xs) := by
      rw [List.eq_nil_of_length_eq_zero hxl]; simp [val]
    have HV := (show Hid _ from hv)
    clear hv hxl hx2 nx hx
    go_enter Try.func28, Try.ntmps28
    go_wp2_with fail
    refine (refShr_any _ _ _ _ 1 _ ha).mono ?_
    rintro e w2 ⟨sa, sn, sc, ss, se, rfl, hs, hsr, hb2⟩
    have HQ := (show Hid _ from HF.out _ _ _ hx1 HV.out hsr)
    clear hsr HF
    go_wp2_with fail
    go_ret
    exact ⟨_, _, _, _, rfl, hs, HQ.out.1, HQ.out.2, hb2⟩
  · have hp : (0 : Int) < (la : Int) := by omega
    have hcp := ha.hcap
    obtain ⟨b0, o0, rfl, hc⟩ := ha.cells (by omega)
    obtain ⟨z, hz⟩ : ∃ z, z = xs.getD 0 0 := ⟨_, rfl⟩
    have hc1 : w.cell? ⟨b0, o0, none⟩ = some (.int .u64 z) := by rw [hz]; have := hc 0 (by omega); simpa using this
    have bz : 0 ≤ z ∧ z < 18446744073709551616 := by rw [hz]; exact ha.digs.getD (by decide) _
    have hpar := low_par (xs := xs) (by omega)
    rw [← hz] at hpar
    by_cases ho : z % 2 = 1
    · have ho' : z.tmod 2 = 1 := by rw [Int.tmod_eq_emod_of_nonneg bz.1]; exact ho
      have HV : Hid (∀ u : Int, u = val 18446744073709551616 xs + val 18446744073709551616 zs → u = (if val 18446744073709551616 xs % 2 = 1 then val 18446744073709551616 xs + val 18446744073709551616 zs else val 18446744073709551616 xs)) := fun u hu => by rw [if_pos (by omega)]; exact hu
      have HS : Hid (val 18446744073709551616 xs + val 18446744073709551616 zs < 18446744073709551616 ^ 64) := by
        have lx := val_lt_pow (B := 18446744073709551616) (by decide) hb.digs hm.len.2
        have a3 : (18446744073709551616 : Int) ^ 8 + 18446744073709551616 ^ 8 < 18446744073709551616 ^ 64 := by decide
        show _ < _
        omega
      clear hxl hx2 nx hx hz hc hpar ho
      go_enter Try.func28, Try.ntmps28
      go_wp2_with fail
      refine (refAdd_any _ _ _ _ _ _ _ _ _ ha hb).mono ?_
      rintro e w1 ⟨a1, n1, c1, ys, ye, rfl, hy, hyr, hb1⟩
      have hq : rightB ys = true ∧ val 18446744073709551616 ys = val 18446744073709551616 xs + val 18446744073709551616 zs := by
        unfold Res2 at hyr
        rw [hx1, hm.right, if_pos (show (true && true) = true from rfl)] at hyr
        exact (res_fits hyr HS.out).2.2
      have hq1 := hq.1
      have HY := (show Hid _ from HV.out _ hq.2)
      clear hyr hq HV
      go_wp2_with fail
      refine (refShr_any _ _ _ _ 1 _ hy).mono ?_
      rintro e w2 ⟨sa, sn, sc, ss, se, rfl, hs, hsr, hb2⟩
      have HQ := (show Hid _ from HF.out _ _ _ hq1 HY.out hsr)
      have hB := hb1.trans (hb2.mono hb1.size)
      clear hsr HF HY
      go_wp2_with fail
      go_ret
      exact ⟨_, _, _, _, rfl, hs, HQ.out.1, HQ.out.2, hB⟩
    · have ho' : z.tmod 2 = 0 := by rw [Int.tmod_eq_emod_of_nonneg bz.1]; omega
      have HV : Hid (val 18446744073709551616 xs = (if val 18446744073709551616 xs % 2 = 1 then val 18446744073709551616 xs + val 18446744073709551616 zs else val 18446744073709551616 xs)) := by
        show _ = _
        rw [if_neg (by omega)]
      clear hxl hx2 nx hx hz hc hpar ho
      go_enter Try.func28, Try.ntmps28
      go_wp2_with fail
      refine (refShr_any _ _ _ _ 1 _ ha).mono ?_
      rintro e w2 ⟨sa, sn, sc, ss, se, rfl, hs, hsr, hb2⟩
      have HQ := (show Hid _ from HF.out _ _ _ hx1 HV.out hsr)
      clear hsr HF
      go_wp2_with fail
      go_ret
      exact ⟨_, _, _, _, rfl, hs, HQ.out.1, HQ.out.2, hb2⟩

set_option maxHeartbeats 1600000 in
theorem refOut2_any (a b : Option Addr) (la ca lb cb : Nat) (xs zs : List Int) (w : World) (ha : Nums w a la ca xs) (hb : Nums w b lb cb zs) (hm : ModOk zs) :
    Calls Try.prog 14 #[.slice a la ca, .slice b lb cb] w fun e w' => ∃ a' n c' ls err, e = .returned (.tuple #[.slice a' n c', .int .i64 err]) ∧ Nums w' a' n c' ls ∧
      ResRing (belowB xs zs) zs (val 18446744073709551616 xs) ls err ∧ Below w.heap.size w w' := by
  have hzl := hb.hlen
  cases hx : belowB xs zs with
  | false =>
    clear hzl
    go_enter Try.func14, Try.ntmps14
    go_wp2_with fail
    refine (refBelow_any _ _ _ _ _ _ _ _ _ ha hb hm.right).mono ?_
    rintro e w1 ⟨rfl, hb1⟩
    rw [hx]
    go_wp2_with fail
    go_ret2
    exact ⟨none, 0, 0, [], 1, rfl, Nums.nil _, ResRing.bad _ _, hb1⟩
  | true =>
    have HZ : Hid (zs.length = lb) := hzl
    have hl8 : lb ≤ 8 := by have := hm.len; omega
    clear hzl
    go_enter Try.func14, Try.ntmps14
    go_wp2_with fail
    refine (refBelow_any _ _ _ _ _ _ _ _ _ ha hb hm.right).mono ?_
    rintro e w1 ⟨rfl, hb1⟩
    rw [hx]
    have ha1 := ha.below hb1
    go_wp2
    go_loopw [0, 7] (fun xv iv wr => ∃ i : Nat, i ≤ 64 * lb ∧ iv = .int .i64 i ∧ ∃ ya yn yc ys, xv = .slice ya yn yc ∧ Nums wr ya yn yc ys ∧ belowB ys zs = true ∧ Hid ((2 ^ i * val 18446744073709551616 ys) % val 18446744073709551616 zs = val 18446744073709551616 xs % val 18446744073709551616 zs) ∧ Below w.heap.size w wr) (fun _ iv _ => 64 * lb - (intOf iv).toNat)
    case atStart => exact ⟨0, Nat.zero_le _, rfl, _, _, _, xs, rfl, ha1, hx, by show _ = _; simp, hb1⟩
    case round =>
      obtain ⟨i, hi, rfl, ya, yn, yc, ys, rfl, hy, hyb, HY, hbr⟩ := hrel
      have hz1 := hb.below hbr
      clear ha1 hb1
      by_cases hlt : i < 64 * lb
      · have hlti : (i : Int) < 64 * (lb : Int) := by omega
        go_wp2_with fail
        refine (half_any _ _ _ _ _ _ _ _ _ hy hz1 hm hyb).mono ?_
        rintro e w2 ⟨sa, sn, sc, ss, rfl, hs, hsb, hsv, hb2⟩
        have HS : Hid ((2 ^ (i + 1) * val 18446744073709551616 ss) % val 18446744073709551616 zs = val 18446744073709551616 xs % val 18446744073709551616 zs) := by
          show _ = _
          rw [Int.pow_succ, Int.mul_assoc, Int.mul_emod, hsv, ← Int.mul_emod]
          exact HY.out
        have hB := hbr.trans (hb2.mono hbr.size)
        clear hsv hy hyb HY hz1 hbr
        go_wp2
        go_roundw
        case rel => exact ⟨i + 1, by omega, by go_num, _, _, _, ss, rfl, hs, hsb, HS, hB⟩
        case measure => simp [intOf]; omega
      · obtain rfl : i = 64 * lb := by omega
        have HQ : Hid (Red zs (val 18446744073709551616 xs) ys) := by
          refine ⟨hy.digs, right_top (below_parts hyb).1, (below_parts hyb).2, ?_⟩
          rw [HZ.out, pow64]; exact HY.out
        clear HY
        go_wp2
        go_ret2
        exact ⟨_, _, _, _, _, rfl, hy, ResRing.ok HQ.out, hbr⟩

set_option maxHeartbeats 800000 in
theorem refMul2_any (a b c : Option Addr) (la ca lb cb lc cc : Nat) (xs ys zs : List Int) (w : World) (ha : Nums w a la ca xs) (hb : Nums w b lb cb ys) (hc : Nums w c lc cc zs) (hm : ModOk zs) :
    Calls Try.prog 16 #[.slice a la ca, .slice b lb cb, .slice c lc cc] w fun e w' => ∃ a' n c' ls err, e = .returned (.tuple #[.slice a' n c', .int .i64 err]) ∧ Nums w' a' n c' ls ∧
      ResRing (belowB xs zs && belowB ys zs) zs (val 18446744073709551616 xs * val 18446744073709551616 ys) ls err ∧ Below w.heap.size w w' := by
  cases hx : belowB xs zs with
  | false =>
    go_enter Try.func16, Try.ntmps16
    go_wp2_with fail
    refine (refBelow_any _ _ _ _ _ _ _ _ _ ha hc hm.right).mono ?_
    rintro e w1 ⟨rfl, hb1⟩
    rw [hx]
    go_wp2_with fail
    refine (refBelow_any _ _ _ _ _ _ _ _ _ (hb.below hb1) (hc.below hb1) hm.right).mono ?_
    rintro e w2 ⟨rfl, hb2⟩
    go_wp2_with fail
    go_ret2
    exact ⟨none, 0, 0, [], 1, rfl, Nums.nil _, by rw [Bool.false_and]; exact ResRing.bad _ _, hb1.trans (hb2.mono hb1.size)⟩
  | true =>
  cases hy : belowB ys zs with
  | false =>
    go_enter Try.func16, Try.ntmps16
    go_wp2_with fail
    refine (refBelow_any _ _ _ _ _ _ _ _ _ ha hc hm.right).mono ?_
    rintro e w1 ⟨rfl, hb1⟩
    rw [hx]
    go_wp2_with fail
    refine (refBelow_any _ _ _ _ _ _ _ _ _ (hb.below hb1) (hc.below hb1) hm.right).mono ?_
    rintro e w2 ⟨rfl, hb2⟩
    rw [hy]
    go_wp2_with fail
    go_ret2
    exact ⟨none, 0, 0, [], 1, rfl, Nums.nil _, ResRing.bad _ _, hb1.trans (hb2.mono hb1.size)⟩
  | true =>
    go_enter Try.func16, Try.ntmps16
    go_wp2_with fail
    refine (refBelow_any _ _ _ _ _ _ _ _ _ ha hc hm.right).mono ?_
    rintro e w1 ⟨rfl, hb1⟩
    rw [hx]
    go_wp2_with fail
    refine (refBelow_any _ _ _ _ _ _ _ _ _ (hb.below hb1) (hc.below hb1) hm.right).mono ?_
    rintro e w2 ⟨rfl, hb2⟩
    rw [hy]
    have hB2 := hb1.trans (hb2.mono hb1.size)
    clear hb1 hb2
    go_wp2_with fail
    refine (mtimes_any _ _ _ _ _ _ _ _ _ _ _ _ _ (ha.below hB2) (hb.below hB2) (hc.below hB2) hm hx hy).mono ?_
    rintro e w3 ⟨ta, tn, tc, ts, rfl, ht, htb, htv, hb3⟩
    have HT : Hid (val 18446744073709551616 ts = (val 18446744073709551616 xs * val 18446744073709551616 ys) % val 18446744073709551616 zs) := htv
    have hB3 := hB2.trans (hb3.mono hB2.size)
    clear htv hb3 hB2
    have O := refOut2_any ta c tn tc lc cc ts zs w3 ht (hc.below hB3) hm
    rw [htb] at O
    go_wp2_with fail
    refine O.mono ?_
    rintro e w4 ⟨a2, n2, c2, ls, err, rfl, hl, hres, hb4⟩
    have HQ : Hid (ResRing true zs (val 18446744073709551616 xs * val 18446744073709551616 ys) ls err) := by
      unfold ResRing at hres
      rw [if_pos rfl] at hres
      obtain ⟨rfl, hred⟩ := hres
      exact ResRing.ok (hred.mod (by rw [HT.out, Int.emod_emod]))
    have hB := hB3.trans (hb4.mono hB3.size)
    clear hres
    go_wp2_with fail
    go_ret2
    exact ⟨_, _, _, _, _, rfl, hl, HQ.out, hB⟩

theorem Red.belowB {zs : List Int} {v : Int} {ls : List Int} (h : Red zs v ls) (hm : ModOk zs) (hd : Digs 18446744073709551616 zs) : belowB ls zs = true := by
  refine below_mk (right_mk ?_ h.2.1) h.2.2.1
  have := len_le (B := 18446744073709551616) (by decide) h.1 h.2.1 (k := 8) (by
    have := val_lt_pow (B := 18446744073709551616) (by decide) hd hm.len.2
    have := h.2.2.1
    omega)
  omega

theorem red_in {zs ls : List Int} {a : Int} (hm : ModOk zs) (h : Red zs (a * (18446744073709551616 ^ zs.length * 18446744073709551616 ^ zs.length)) ls) : val 18446744073709551616 ls % val 18446744073709551616 zs = (a * 18446744073709551616 ^ zs.length) % val 18446744073709551616 zs := by
  have e := h.2.2.2
  rw [← Int.mul_assoc, Int.mul_comm (a * _)] at e
  rw [pow64] at e ⊢
  exact pow_cancel hm.odd _ e

theorem red_prod {zs ps : List Int} {x y a b : Int} (hm : ModOk zs) (h : Red zs (x * y) ps) (hx : x % val 18446744073709551616 zs = (a * 18446744073709551616 ^ zs.length) % val 18446744073709551616 zs) (hy : y % val 18446744073709551616 zs = (b * 18446744073709551616 ^ zs.length) % val 18446744073709551616 zs) :
    val 18446744073709551616 ps % val 18446744073709551616 zs = (a * b * 18446744073709551616 ^ zs.length) % val 18446744073709551616 zs := by
  have e := h.2.2.2
  rw [Int.mul_emod x y, hx, hy, ← Int.mul_emod] at e
  have e2 : a * 18446744073709551616 ^ zs.length * (b * 18446744073709551616 ^ zs.length) = 18446744073709551616 ^ zs.length * (a * b * 18446744073709551616 ^ zs.length) := by
    generalize (18446744073709551616 : Int) ^ zs.length = r
    rw [Int.mul_comm a r, Int.mul_assoc, Int.mul_assoc]
  rw [e2, pow64] at e
  rw [pow64]
  exact pow_cancel hm.odd _ e

/-- What comes back out of the form is the number whose rest went in. -/
theorem red_out {zs ls ks : List Int} {x a : Int} (hm : ModOk zs) (h : Red zs x ls) (hx : x % val 18446744073709551616 zs = (a * 18446744073709551616 ^ zs.length) % val 18446744073709551616 zs) (hd : Digs 18446744073709551616 ks) (ha : belowB ks zs = true) (hv : val 18446744073709551616 ks = a % val 18446744073709551616 zs) : ls = ks := by
  refine h.unique hm.odd ⟨hd, right_top (below_parts ha).1, (below_parts ha).2, ?_⟩
  rw [hv, hx, Int.mul_emod, Int.emod_emod, ← Int.mul_emod, Int.mul_comm]
end Go.Proofs.Ytnioobiodiofiaa

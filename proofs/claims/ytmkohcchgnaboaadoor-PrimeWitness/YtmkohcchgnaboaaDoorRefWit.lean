/-
  The contract of the document's Witness.
-/
import Derived.Test.YtmkohcchgnaboaaDoorRefPrime
import Derived.Test.YtmkohcchgnaboaaDoorMPower
namespace Go.Proofs.YtmkohcchgnaboaaDoor
open Go.RowKit

/-- What is told of whether a proves that n is no prime. -/
def WitT (a n : Nat) (e : Ending) : Prop :=
  ((n % 2 = 0 ∨ n < 3 ∨ 1099511627776 ≤ n) ∧ e = .returned (.tuple #[.bool false, .int .i64 1])) ∨
  (¬ (n % 2 = 0 ∨ n < 3 ∨ 1099511627776 ≤ n) ∧ Wit a n ∧ e = .returned (.tuple #[.bool true, .int .i64 0])) ∨
  (¬ (n % 2 = 0 ∨ n < 3 ∨ 1099511627776 ≤ n) ∧ ¬ Wit a n ∧ e = .returned (.tuple #[.bool false, .int .i64 0]))

theorem ofZ_limb {x : Int} (h : 0 ≤ x ∧ x < 18446744073709551616) : Digs 18446744073709551616 (ofZ x) ∧ rightB (ofZ x) = true ∧ val 18446744073709551616 (ofZ x) = x := by
  unfold ofZ
  split
  · subst x; exact ⟨Digs.nil _, rfl, rfl⟩
  · refine ⟨fun y hy => ?_, ?_, ?_⟩
    · simp at hy; subst hy; exact h
    · simp [rightB]; assumption
    · simp [val]

theorem small_limb {ls : List Int} {x : Int} (hd : Digs 18446744073709551616 ls) (hr : rightB ls = true) (hv : val 18446744073709551616 ls = x) (hx : x < 18446744073709551616) : smallZ ls = x := by
  have hl : ls.length ≤ 1 := len_le (B := 18446744073709551616) (by decide) hd (right_top hr) (by rw [hv]; omega)
  unfold smallZ
  rw [hr, if_pos (by simpa using hl)]
  match ls, hl with
  | [], _ => simpa [val] using hv
  | [y], _ => simpa [val] using hv

theorem one_limb {n : Nat} (h : 0 < n) : ofZ (n : Int) = [(n : Int)] := by unfold ofZ; rw [if_neg (by omega)]
theorem pow_cast (a d n : Nat) : ((a : Int) % (n : Int)) ^ d % (n : Int) = ((a ^ d % n : Nat) : Int) := by
  have e : ((a : Int) % (n : Int)) = ((a % n : Nat) : Int) := by simp
  rw [e, ← Int.natCast_pow, ← Int.natCast_emod, ← Nat.pow_mod]
theorem two_pow_bd {d s n : Nat} (h : n = d * 2 ^ s) (h0 : 0 < d) (hn : n < 1099511627776) : s ≤ 40 := by
  rcases Nat.lt_or_ge 40 s with e | e
  · exfalso
    have h1 : 2 ^ 41 ≤ 2 ^ s := Nat.pow_le_pow_right (by omega) e
    have h2 : 1 * 2 ^ s ≤ d * 2 ^ s := Nat.mul_le_mul h0 (Nat.le_refl _)
    omega
  · exact e

theorem sq_step {a n k : Nat} {x y : Int} (hx : x = ((a ^ k % n : Nat) : Int)) (hy : y = x * x % (n : Int)) : y = ((a ^ (k * 2) % n : Nat) : Int) := by
  rw [hy, hx, pow_mod_sq]
  simp only [Int.natCast_emod, Int.natCast_mul]

set_option maxRecDepth 20000 in
set_option maxHeartbeats 3200000 in
theorem rWit_any (a n : Nat) (w : World) (ha : a < 18446744073709551616) :
    Calls Tryd.prog 7 #[.int .u64 (a : Int), .int .u64 (n : Int)] w fun e w' => WitT a n e ∧ Below w.heap.size w w' := by
  by_cases c0 : (n : Int) % 2 = 0
  · have HR : Hid (WitT a n (.returned (.tuple #[.bool false, .int .i64 1]))) := .inl ⟨.inl (by omega), rfl⟩
    have c0' : ((n : Int) % 2 == 0) = true := by simp [c0]
    clear c0
    go_enter Tryd.func7, Tryd.ntmps7
    go_wp2
    go_ret2
    exact ⟨HR.out, Below.refl _ _⟩
  have d0 : ((n : Int) % 2 == 0) = false := by simp; omega
  by_cases c1 : (n : Int) < 3
  · have HR : Hid (WitT a n (.returned (.tuple #[.bool false, .int .i64 1]))) := .inl ⟨.inr (.inl (by omega)), rfl⟩
    go_enter Tryd.func7, Tryd.ntmps7
    go_wp2
    go_ret2
    exact ⟨HR.out, Below.refl _ _⟩
  have d1 : decide ((n : Int) < 3) = false := decide_eq_false c1
  by_cases c2 : (1099511627776 : Int) ≤ (n : Int)
  · have HR : Hid (WitT a n (.returned (.tuple #[.bool false, .int .i64 1]))) := .inl ⟨.inr (.inr (by omega)), rfl⟩
    go_enter Tryd.func7, Tryd.ntmps7
    go_wp2
    go_ret2
    exact ⟨HR.out, Below.refl _ _⟩
  have d2 : decide ((1099511627776 : Int) ≤ (n : Int)) = false := decide_eq_false c2
  have HOk : Hid (¬ (n % 2 = 0 ∨ n < 3 ∨ 1099511627776 ≤ n)) := by show ¬ _; omega
  have n1 : 3 ≤ n := by omega
  have n2 : n < 1099511627776 := by omega
  have nodd : n % 2 = 1 := by omega
  clear c0 c1 c2
  go_enter Tryd.func7, Tryd.ntmps7
  go_wp2
  go_loopw [6, 7] (fun dv sv wr => ∃ d s : Nat, dv = .int .u64 d ∧ sv = .int .i64 s ∧ Hid (n - 1 = d * 2 ^ s) ∧ 0 < d ∧ d < 1099511627776 ∧ s ≤ 40 ∧ wr = w) (fun dv _ _ => (intOf dv).toNat)
  case atStart => exact ⟨n - 1, 0, by go_num, rfl, by show _ = _; simp, by omega, by omega, by omega, rfl⟩
  case round =>
    obtain ⟨d, s, rfl, rfl, HD, hd0, hdl, hs, rfl⟩ := hrel
    by_cases he : (d : Int) % 2 = 0
    · have he' : ((d : Int) % 2 == 0) = true := by simp [he]
      have HD2 : Hid (n - 1 = d / 2 * 2 ^ (s + 1)) := by
        show _ = _
        have := HD.out
        rw [this, Nat.pow_succ, Nat.mul_comm (2 ^ s) 2, ← Nat.mul_assoc]
        congr 1
        omega
      have hd2 : 2 ≤ d := by omega
      have hs2 := two_pow_bd HD2.out (by omega) (by omega)
      clear he HD
      go_wp2
      go_roundw
      case rel => exact ⟨d / 2, s + 1, by go_num, by go_num, HD2, by omega, by omega, hs2, by first | rfl | trivial⟩
      case measure => simp [intOf]; omega
    · have he' : ((d : Int) % 2 == 0) = false := by simp; omega
      have hdo : d % 2 = 1 := by omega
      have HI := (show Hid _ from wit_iff (a := a) HD.out hdo)
      have hNl : ofZ (n : Int) = [(n : Int)] := one_limb (by omega)
      have hNv : val 18446744073709551616 [(n : Int)] = (n : Int) := by simp [val]
      have hNr : rightB [(n : Int)] = true := by simp [rightB]; omega
      have hMod : ModOk [(n : Int)] := ⟨hNr, by simp, by rw [hNv]; omega, by rw [hNv]; omega⟩
      have HN : Hid (val 18446744073709551616 [(n : Int)] = (n : Int) ∧ ofZ (n : Int) = [(n : Int)]) := ⟨hNv, hNl⟩
      have hnp : (0 : Int) < (n : Int) := by omega
      have hnz : ¬ (n : Int) = 0 := by omega
      have am0 : 0 ≤ (a : Int) % (n : Int) := Int.emod_nonneg _ hnz
      have am1 : (a : Int) % (n : Int) < (n : Int) := Int.emod_lt_of_pos _ hnp
      clear he hNl hNv HD
      go_wp2_with fail
      refine (refOf_any (n : Int) _ (by omega)).mono ?_
      rintro e w1 ⟨ma, mn, mc, rfl, hm, hb1⟩
      rw [HN.out.2] at hm
      go_wp2_with fail
      refine (refOf_any ((a : Int) % (n : Int)) _ (by omega)).mono ?_
      rintro e w2 ⟨xa, xn, xc, rfl, hx, hb2⟩
      have hm2 := hm.below hb2
      have hB2 := hb1.trans (hb2.mono hb1.size)
      clear hm hb1 hb2
      go_wp2_with fail
      refine (refOf_any (d : Int) _ (by omega)).mono ?_
      rintro e w3 ⟨ea, en, ec, rfl, hE, hb3⟩
      have hm3 := hm2.below hb3
      have hx3 := hx.below hb3
      have hB3 := hB2.trans (hb3.mono hB2.size)
      clear hm2 hx hb3 hB2
      obtain ⟨xd, xr, xv⟩ := ofZ_limb (x := (a : Int) % (n : Int)) (by omega)
      obtain ⟨ed, er, ev⟩ := ofZ_limb (x := (d : Int)) (by omega)
      have hen : en ≤ 8 := by
        have h1 := hE.hlen
        have h2 := len_le (B := 18446744073709551616) (by decide) ed (right_top er) (k := 1) (by rw [ev]; omega)
        omega
      go_wp2_with fail
      refine (power2_any _ _ _ _ _ _ _ _ _ _ _ _ d _ hx3 hE hm3 hMod (below_mk xr (by rw [xv, HN.out.1]; exact am1)) er hen ev).mono ?_
      rintro e w4 ⟨pa, pn, pc, ps, rfl, hP, pb, pv, hb4⟩
      rw [xv, HN.out.1, pow_cast] at pv
      have hm4 := hm3.below hb4
      have hB4 := hB3.trans (hb4.mono hB3.size)
      have hlt : a ^ d % n < n := Nat.mod_lt _ (by omega)
      obtain ⟨k, hk⟩ : ∃ k : Nat, k = a ^ d % n := ⟨_, rfl⟩
      have hsm := small_limb hP.digs (below_parts pb).1 pv (by omega)
      rw [← hk] at hsm pv hlt
      have HK : Hid (k = a ^ d % n) := hk
      have HSm : Hid (∀ wx : World, Nums wx pa pn pc ps → Calls Tryd.prog 14 #[.slice pa pn pc] wx fun e w' => e = .returned (.tuple #[.int .u64 (k : Int), .bool (smallB ps)]) ∧ w' = wx) := fun wx hx => by
        have := refSmall_any _ _ _ _ _ hx
        rw [hsm] at this
        exact this
      have HPV : Hid (val 18446744073709551616 ps = (k : Int)) := pv
      clear hm3 hx3 hE hb4 hB3 xd xr xv ed er ev hen pv hk hsm am0 am1
      go_wp2_with fail
      refine (HSm.out _ hP).mono ?_
      rintro e w5 ⟨rfl, rfl⟩
      by_cases c1 : (k : Int) ≤ 1
      · have HR : Hid (WitT a n (.returned (.tuple #[.bool false, .int .i64 0]))) := .inr (.inr ⟨HOk.out, fun h => by
          have := (HI.out.1 h).1
          rw [← HK.out] at this
          omega, rfl⟩)
        go_wp2
        go_ret2
        exact ⟨HR.out, hB4⟩
      have d1' : decide ((k : Int) ≤ 1) = false := decide_eq_false c1
      have HK1 : Hid (1 < a ^ d % n) := by show _ < _; rw [← HK.out]; omega
      clear HSm c1
      obtain ⟨wo, hwo⟩ : ∃ wo, wo = wr := ⟨_, rfl⟩
      subst hwo
      go_wp2
      go_loopw [9, 10, 12] (fun xv kv iv wr => ∃ (i : Nat) (ya : Option Addr) (yn yc : Nat) (ys : List Int), i ≤ s ∧ iv = .int .i64 i ∧ xv = .slice ya yn yc ∧ Nums wr ya yn yc ys ∧ belowB ys [(n : Int)] = true ∧ Hid (val 18446744073709551616 ys = ((a ^ (d * 2 ^ i) % n : Nat) : Int) ∧ ∀ j, j < i → a ^ (d * 2 ^ j) % n ≠ n - 1) ∧ Nums wr ma mn mc [(n : Int)] ∧ Below wo.heap.size wo wr) (fun _ _ iv _ => s - (intOf iv).toNat)
      case atStart => exact ⟨0, pa, pn, pc, ps, Nat.zero_le _, rfl, rfl, hP, pb, ⟨by rw [HPV.out, HK.out]; simp, fun j hj => by omega⟩, hm4, hB4⟩
      case round =>
        clear hP pb hm4 hB4 HPV
        obtain ⟨i, ya, yn, yc, ys, hi, rfl, rfl, hY, yb, HV, hmr, hbr⟩ := hrel
        by_cases hlt2 : i < s
        · have hlti : (i : Int) < (s : Int) := by omega
          obtain ⟨v, hv⟩ : ∃ v : Nat, v = a ^ (d * 2 ^ i) % n := ⟨_, rfl⟩
          have hvn : v < n := by rw [hv]; exact Nat.mod_lt _ (by omega)
          have hyv := HV.out.1
          rw [← hv] at hyv
          have hsm := small_limb hY.digs (below_parts yb).1 hyv (by omega)
          have HSm : Hid (∀ wx : World, Nums wx ya yn yc ys → Calls Tryd.prog 14 #[.slice ya yn yc] wx fun e w' => e = .returned (.tuple #[.int .u64 (v : Int), .bool (smallB ys)]) ∧ w' = wx) := fun wx hx => by
            have := refSmall_any _ _ _ _ _ hx
            rw [hsm] at this
            exact this
          have HVv : Hid (v = a ^ (d * 2 ^ i) % n ∧ val 18446744073709551616 ys = (v : Int)) := ⟨hv, hyv⟩
          clear hv hyv hsm
          go_wp2_with fail
          refine (HSm.out _ hY).mono ?_
          rintro e w6 ⟨rfl, rfl⟩
          by_cases cv : (v : Int) = (n : Int) - 1
          · have cv' : ((v : Int) == (n : Int) - 1) = true := by simp [cv]
            have HR : Hid (WitT a n (.returned (.tuple #[.bool false, .int .i64 0]))) := .inr (.inr ⟨HOk.out, fun h => (HI.out.1 h).2 i hlt2 (by rw [← HVv.out.1]; omega), rfl⟩)
            clear cv HSm
            go_wp2
            go_ret2
            exact ⟨HR.out, hbr⟩
          · have cv' : ((v : Int) == (n : Int) - 1) = false := by simp; omega
            have HJ : Hid (∀ j, j < i + 1 → a ^ (d * 2 ^ j) % n ≠ n - 1) := fun j hj => by
              by_cases e : j = i
              · subst e; rw [← HVv.out.1]; omega
              · exact HV.out.2 j (by omega)
            clear cv HSm HV
            go_wp2_with fail
            refine (mtimes_any _ _ _ _ _ _ _ _ _ _ _ _ _ hY hY hmr hMod yb yb).mono ?_
            rintro e w7 ⟨za, zn, zc, zs, rfl, hZ, zb, zv, hb7⟩
            have hm7 := hmr.below hb7
            have hB7 := hbr.trans (hb7.mono hbr.size)
            have HZ : Hid (val 18446744073709551616 zs = ((a ^ (d * 2 ^ (i + 1)) % n : Nat) : Int)) := by
              show _ = _
              rw [HN.out.1] at zv
              rw [Nat.pow_succ, ← Nat.mul_assoc]
              exact sq_step (HVv.out.2.trans (by rw [HVv.out.1])) zv
            clear hY hmr hbr hb7 zv
            go_wp2
            go_roundw
            case rel => exact ⟨i + 1, za, zn, zc, zs, by omega, by go_num, rfl, hZ, zb, ⟨HZ.out, HJ.out⟩, hm7, hB7⟩
            case measure => simp [intOf]; omega
        · obtain rfl : i = s := by omega
          have HR : Hid (WitT a n (.returned (.tuple #[.bool true, .int .i64 0]))) := .inr (.inl ⟨HOk.out, HI.out.2 ⟨HK1.out, HV.out.2⟩, rfl⟩)
          clear HV
          go_wp2
          go_ret2
          exact ⟨HR.out, hbr⟩
end Go.Proofs.YtmkohcchgnaboaaDoor

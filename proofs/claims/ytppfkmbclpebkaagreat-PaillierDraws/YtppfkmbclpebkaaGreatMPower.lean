/-
  Contracts of the document's Power and Exp.
-/
import Derived.Test.YtppfkmbclpebkaaGreatMontC
namespace Go.Proofs.YtppfkmbclpebkaaGreat
open Go.RowKit

theorem bit_nat {es : List Int} {E : Nat} (hd : Digs 18446744073709551616 es) (hr : rightB es = true) (he : val 18446744073709551616 es = (E : Int)) (j : Nat) (hj : (j : Int) < 64 * (es.length : Int)) : bitB es (j : Int) = decide (E / 2 ^ j % 2 = 1) := by
  rw [bitB_in hr (by omega) (by omega)]
  have h := nat_bits hd he ((j : Int) / 64).toNat ((j : Int) % 64).toNat 1 (by omega)
  rw [show 64 * ((j : Int) / 64).toNat + ((j : Int) % 64).toNat = j by omega] at h
  have e1 : (2 : Int) ^ 1 = 2 := by decide
  have e2 : (2 : Nat) ^ 1 = 2 := by decide
  rw [e1, e2] at h
  rw [h]
  have : ((E / 2 ^ j % 2 : Nat) : Int) = 1 ↔ E / 2 ^ j % 2 = 1 := by omega
  simp only [this]

theorem half_dig (E j : Nat) : E / 2 ^ j = 2 * (E / 2 ^ (j + 1)) + E / 2 ^ j % 2 := by
  rw [Nat.pow_succ, ← Nat.div_div_eq_div_mul]; omega

theorem pow_sq {x n : Int} {k : Nat} : (x ^ k % n * (x ^ k % n)) % n = x ^ (2 * k) % n := by
  rw [← Int.mul_emod, ← Int.pow_add]; congr 2; omega

theorem pow_one_more {x n y : Int} {k : Nat} (h : y = x ^ k % n) : (y * x) % n = x ^ (k + 1) % n := by
  rw [h, Int.pow_succ, Int.mul_emod, Int.emod_emod, ← Int.mul_emod]

set_option maxHeartbeats 1600000 in
theorem power2_any (a b c : Option Addr) (la ca lb cb lc cc : Nat) (xs es zs : List Int) (E : Nat) (w : World) (ha : Nums w a la ca xs) (hb : Nums w b lb cb es) (hc : Nums w c lc cc zs) (hm : ModOk zs) (hx : belowB xs zs = true) (hr : rightB es = true) (h8 : lb ≤ 8) (he : val 18446744073709551616 es = (E : Int)) :
    Calls Tryz.prog 61 #[.slice a la ca, .slice b lb cb, .slice c lc cc] w fun e w' => ∃ a' n c' ls, e = .returned (.slice a' n c') ∧ Nums w' a' n c' ls ∧ belowB ls zs = true ∧ val 18446744073709551616 ls = val 18446744073709551616 xs ^ E % val 18446744073709551616 zs ∧ Below w.heap.size w w' := by
  have hel := hb.hlen
  have hbl := bits_lt hb.digs hr he
  obtain ⟨bz, hbz⟩ : ∃ bz : Nat, (bz : Int) = bitsZ es := ⟨(bitsZ es).toNat, by omega⟩
  have HB : Hid ((bz : Int) = bitsZ es) := hbz
  have HE0 : Hid (E / 2 ^ bz = 0) := Nat.div_eq_of_lt (by have := hbl.2.2; rw [← hbz] at this; simpa using this)
  have hbn : bz ≤ 512 := by omega
  have HBit : Hid (∀ j : Nat, j < bz → bitB es (j : Int) = decide (E / 2 ^ j % 2 = 1)) := fun j hj => bit_nat hb.digs hr he j (by omega)
  have h1b : belowB (ofZ 1) zs = true := below_mk (by decide) (by have := hm.three; show val 18446744073709551616 (ofZ 1) < _; rw [show val 18446744073709551616 (ofZ 1) = 1 by decide]; omega)
  have H1v : Hid (val 18446744073709551616 (ofZ 1) = val 18446744073709551616 xs ^ 0 % val 18446744073709551616 zs) := by
    show _ = _
    rw [show val 18446744073709551616 (ofZ 1) = 1 by decide, Int.pow_zero, Int.emod_eq_of_lt (by decide) (by have := hm.three; omega)]
  clear hel hbl hbz
  go_enter Tryz.func61, Tryz.ntmps61
  go_wp2_with fail
  refine (refOf_any 1 _ (by omega)).mono ?_
  rintro e w1 ⟨oa, on, oc, rfl, ho, hb1⟩
  have hbe := hb.below hb1
  go_wp2_with fail
  refine (refBits_any _ _ _ _ _ hbe).mono ?_
  rintro e w2 ⟨rfl, rfl⟩
  rw [← HB.out]
  go_wp2
  go_loopw [7, 8] (fun ov iv wr => ∃ j : Nat, j ≤ bz ∧ iv = .int .i64 ((j : Int) - 1) ∧ ∃ ya yn yc ys, ov = .slice ya yn yc ∧ Nums wr ya yn yc ys ∧ belowB ys zs = true ∧ Hid (val 18446744073709551616 ys = val 18446744073709551616 xs ^ (E / 2 ^ j) % val 18446744073709551616 zs) ∧ Below w.heap.size w wr) (fun _ iv _ => (intOf iv + 1).toNat)
  case atStart => exact ⟨bz, Nat.le_refl _, rfl, _, _, _, _, rfl, ho, h1b, by rw [HE0.out]; exact H1v, hb1⟩
  case round =>
    clear ho hbe hb1
    obtain ⟨j, hj, rfl, ya, yn, yc, ys, rfl, hy, hyb, HY, hbr⟩ := hrel
    by_cases h0 : j = 0
    · subst h0
      have HF : Hid (val 18446744073709551616 ys = val 18446744073709551616 xs ^ E % val 18446744073709551616 zs) := by have := HY.out; rw [Nat.pow_zero, Nat.div_one] at this; exact this
      clear HY
      go_wp2
      go_ret
      exact ⟨_, _, _, _, rfl, hy, hyb, HF.out, hbr⟩
    · obtain ⟨i, rfl⟩ : ∃ i, j = i + 1 := ⟨j - 1, by omega⟩
      have hi0 : 0 ≤ ((i + 1 : Nat) : Int) - 1 := by omega
      have ei : ((i + 1 : Nat) : Int) - 1 = (i : Int) := by omega
      rw [ei] at hi0 ⊢
      clear ei
      have hzr := hc.below hbr
      go_wp2_with fail
      refine (mtimes_any _ _ _ _ _ _ _ _ _ _ _ _ _ hy hy hzr hm hyb hyb).mono ?_
      rintro e w3 ⟨ta, tn, tc, ts, rfl, ht, htb, htv, hb3⟩
      have HT : Hid (val 18446744073709551616 ts = val 18446744073709551616 xs ^ (2 * (E / 2 ^ (i + 1))) % val 18446744073709551616 zs) := by
        show _ = _
        rw [htv, HY.out, pow_sq]
      have hB3 := hbr.trans (hb3.mono hbr.size)
      have hbe3 := hb.below hB3
      have hza := hc.below hB3
      have hxa := ha.below hB3
      have hbit := HBit.out i (by omega)
      clear htv HY hy hyb hbr hb3 hzr
      by_cases hbt : E / 2 ^ i % 2 = 1
      · rw [decide_eq_true hbt] at hbit
        have HD : Hid (E / 2 ^ i = 2 * (E / 2 ^ (i + 1)) + 1) := by have := half_dig E i; rw [hbt] at this; exact this
        clear hbt
        go_wp2_with fail
        refine (refBit_any _ _ _ _ (i : Int) _ hbe3 (by omega)).mono ?_
        rintro e w4 ⟨rfl, rfl⟩
        rw [hbit]
        go_wp2_with fail
        refine (mtimes_any _ _ _ _ _ _ _ _ _ _ _ _ _ ht hxa hza hm htb hx).mono ?_
        rintro e w5 ⟨ua, un, uc, us, rfl, hu, hub, huv, hb5⟩
        have HU : Hid (val 18446744073709551616 us = val 18446744073709551616 xs ^ (E / 2 ^ i) % val 18446744073709551616 zs) := by
          show _ = _
          rw [huv, pow_one_more HT.out, HD.out]
        have hB5 := hB3.trans (hb5.mono hB3.size)
        clear huv HT ht htb hB3 hb5 hbe3 hza hxa hbit
        go_wp2
        go_roundw
        case rel => exact ⟨i, by omega, rfl, _, _, _, _, rfl, hu, hub, HU, hB5⟩
        case measure => simp [intOf]
      · rw [decide_eq_false hbt] at hbit
        have HU : Hid (val 18446744073709551616 ts = val 18446744073709551616 xs ^ (E / 2 ^ i) % val 18446744073709551616 zs) := by
          have h2 := half_dig E i
          have h3 : E / 2 ^ i % 2 = 0 := by omega
          rw [h3, Nat.add_zero] at h2
          show _ = _
          rw [HT.out, ← h2]
        clear hbt
        go_wp2_with fail
        refine (refBit_any _ _ _ _ (i : Int) _ hbe3 (by omega)).mono ?_
        rintro e w4 ⟨rfl, rfl⟩
        rw [hbit]
        clear HT hbe3 hza hxa hbit
        go_wp2
        go_roundw
        case rel => exact ⟨i, by omega, rfl, _, _, _, _, rfl, ht, htb, HU, hB3⟩
        case measure => simp [intOf]

end Go.Proofs.YtppfkmbclpebkaaGreat

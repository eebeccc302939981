/-
  Walks of stage 5's laws on primes and least divisors, from the contracts of the program's own functions.
-/
import Derived.Test.YtmkohcchgnaboaaRefPrime
namespace Go.Proofs.Ytmkohcchgnaboaa
open Go.RowKit

/-- The program tells of a number whether it is a prime. -/
def IsOk : Prop := ∀ (n : Nat) (w : World), n < 18446744073709551616 → Calls Try.prog 7 #[.int .u64 (n : Int)] w fun e w' => e = .returned (.tuple #[.bool (isB n), .int .i64 (isE n)]) ∧ Below w.heap.size w w'
/-- The program tells a number's least divisor. -/
def LeastOk : Prop := ∀ (n : Nat) (w : World), n < 18446744073709551616 → Calls Try.prog 9 #[.int .u64 (n : Int)] w fun e w' => ∃ (d : Nat) (err : Int), e = .returned (.tuple #[.int .u64 (d : Int), .int .i64 err]) ∧ ResLeast n d err ∧ d ≤ n ∧ Below w.heap.size w w'

theorem least_two {d : Nat} {err : Int} (h : ResLeast 2 d err) : d = 2 := by
  unfold ResLeast at h
  rw [if_pos (by decide)] at h
  refine h.2.unique (.inr ⟨rfl, fun j h1 h2 => ?_⟩)
  have := Nat.mul_le_mul h1 h1
  omega

set_option maxHeartbeats 800000 in
theorem tells_walk (hI : IsOk) (n : Nat) (w : World) (hn : n < 18446744073709551616) :
    Calls Try.prog 3 #[.int .u64 (n : Int)] w fun e w' => e = .returned (.bool true) ∧ Below w.heap.size w w' := by
  have H2 : Hid (∀ wx : World, Calls Try.prog 7 #[.int .u64 2] wx fun e w' => e = .returned (.tuple #[.bool true, .int .i64 0]) ∧ Below wx.heap.size wx w') := fun wx => by
    have := hI 2 wx (by decide)
    rw [show isB 2 = true by decide, show isE 2 = 0 by decide] at this
    exact this
  have H : Hid (∀ wx : World, Calls Try.prog 7 #[.int .u64 (n : Int)] wx fun e w' => e = .returned (.tuple #[.bool (isB n), .int .i64 (isE n)]) ∧ Below wx.heap.size wx w') := fun wx => hI n wx hn
  have HR : Hid (∀ wx : World, Calls Try.prog 8 #[.int .u64 (n : Int)] wx fun e w' => e = .returned (.tuple #[.bool (isB n), .int .i64 (isE n)]) ∧ w' = wx) := fun wx => rIs_any n wx
  clear hI
  generalize isB n = b at *
  generalize isE n = x at *
  go_enter Try.func3, Try.ntmps3
  go_wp2_with fail
  refine (H2.out _).mono ?_
  rintro e w1 ⟨rfl, hb1⟩
  go_wp2_with fail
  refine (H.out _).mono ?_
  rintro e w2 ⟨rfl, hb2⟩
  have hB := hb1.trans (hb2.mono hb1.size)
  go_wp2_with fail
  refine (HR.out _).mono ?_
  rintro e w3 ⟨rfl, rfl⟩
  clear H2 H HR hb1 hb2
  go_wp2
  go_ret
  exact ⟨by simp, hB⟩
set_option maxHeartbeats 800000 in
theorem least_walk (hL : LeastOk) (n : Nat) (w : World) (hn : n < 18446744073709551616) :
    Calls Try.prog 4 #[.int .u64 (n : Int)] w fun e w' => e = .returned (.bool true) ∧ Below w.heap.size w w' := by
  have H2 : Hid (∀ wx : World, Calls Try.prog 9 #[.int .u64 2] wx fun e w' => ∃ err, e = .returned (.tuple #[.int .u64 2, .int .i64 err]) ∧ Below wx.heap.size wx w') := fun wx =>
    (hL 2 wx (by decide)).mono (by rintro e w' ⟨d, err, rfl, hd, -, hb⟩; obtain rfl := least_two hd; exact ⟨err, rfl, hb⟩)
  go_enter Try.func4, Try.ntmps4
  go_wp2_with fail
  refine (H2.out _).mono ?_
  rintro e w1 ⟨err, rfl, hb1⟩
  go_wp2_with fail
  refine (hL n _ hn).mono ?_
  rintro e w2 ⟨d, e1, rfl, hd, -, hb2⟩
  have hB := hb1.trans (hb2.mono hb1.size)
  go_wp2_with fail
  refine (rLeast_any n _).mono ?_
  rintro e w3 ⟨d', e1', rfl, hd', -, rfl⟩
  obtain ⟨rfl, rfl⟩ := hd.unique hd'
  clear H2 hL hb1 hb2 hd hd'
  go_wp2
  go_ret
  exact ⟨by simp, hB⟩
theorem parts_left {n l i : Nat} (h : l * 2 ^ i ≤ n) (hl : 1 ≤ l) (hn : n < 1099511627776) : i < 40 := by
  rcases Nat.lt_or_ge i 40 with e | e
  · exact e
  · exfalso
    have h1 : 2 ^ 40 ≤ 2 ^ i := Nat.pow_le_pow_right (by omega) e
    have h2 : 1 * 2 ^ i ≤ l * 2 ^ i := Nat.mul_le_mul hl (Nat.le_refl _)
    omega
theorem parts_step {n l i d : Nat} (h : l * 2 ^ i ≤ n) (hd : 2 ≤ d) (hv : d ∣ l) (hl : 1 ≤ l) : 1 ≤ l / d ∧ l / d ≤ l ∧ l / d * 2 ^ (i + 1) ≤ n := by
  obtain ⟨m, rfl⟩ := hv
  have hm : 1 ≤ m := by
    rcases Nat.eq_zero_or_pos m with rfl | h
    · omega
    · exact h
  rw [Nat.mul_div_cancel_left _ (by omega)]
  refine ⟨hm, Nat.le_mul_of_pos_left m (by omega), ?_⟩
  have h2 : m * 2 ≤ d * m := by rw [Nat.mul_comm d m]; exact Nat.mul_le_mul (Nat.le_refl _) hd
  have h3 := Nat.mul_le_mul h2 (Nat.le_refl (2 ^ i))
  rw [Nat.pow_succ, Nat.mul_comm (2 ^ i) 2, ← Nat.mul_assoc]
  omega

set_option maxHeartbeats 3200000 in
theorem parts_walk (hI : IsOk) (hL : LeastOk) (n : Nat) (w : World) :
    Calls Try.prog 5 #[.int .u64 (n : Int)] w fun e w' => e = .returned (.bool true) ∧ Below w.heap.size w w' := by
  by_cases c0 : (n : Int) < 2
  · go_enter Try.func5, Try.ntmps5
    go_wp2
    go_ret
    exact ⟨rfl, Below.refl _ _⟩
  have d0 : decide ((n : Int) < 2) = false := decide_eq_false c0
  by_cases c1 : (1099511627776 : Int) ≤ (n : Int)
  · go_enter Try.func5, Try.ntmps5
    go_wp2
    go_ret
    exact ⟨rfl, Below.refl _ _⟩
  have d1 : decide ((1099511627776 : Int) ≤ (n : Int)) = false := decide_eq_false c1
  have n2 : 2 ≤ n := by omega
  have n4 : n < 1099511627776 := by omega
  have HI : Hid IsOk := hI
  have HL : Hid LeastOk := hL
  clear c0 c1 hI hL
  go_enter Try.func5, Try.ntmps5
  go_wp2
  go_loopw [3, 4, 5] (fun lv kv iv wr => ∃ l k i : Nat, lv = .int .u64 l ∧ kv = .int .u64 k ∧ iv = .int .i64 i ∧ 1 ≤ l ∧ l ≤ n ∧ Hid (l * 2 ^ i ≤ n) ∧ Hid (∀ j, 2 ≤ j → j ∣ l → k ≤ j) ∧ Below w.heap.size w wr) (fun _ _ iv _ => 64 - (intOf iv).toNat)
  case atStart => exact ⟨n, 2, 0, rfl, rfl, rfl, by omega, Nat.le_refl _, by show _ ≤ _; simp, fun j h _ => h, Below.refl _ _⟩
  case round =>
    obtain ⟨l, k, i, rfl, rfl, rfl, hl1, hln, HP, HK, hb⟩ := hrel
    have hi := parts_left HP.out hl1 n4
    have hi64 : (i : Int) < 64 := by omega
    by_cases c2 : (1 : Int) < (l : Int)
    · go_wp2_with fail
      refine (HL.out l _ (by omega)).mono ?_
      rintro e w1 ⟨d, err, rfl, hd, hdl, hb1⟩
      unfold ResLeast at hd
      rw [if_pos (by omega)] at hd
      obtain ⟨rfl, hlo⟩ := hd
      obtain ⟨hd2, hdv, hmin⟩ := hlo.least (by omega)
      have hpr := hlo.prime (by omega)
      have hkd := HK.out d hd2 hdv
      obtain ⟨hs1, hs2, hs3⟩ := parts_step HP.out hd2 hdv hl1
      have HS : Hid (l / d * 2 ^ (i + 1) ≤ n) := hs3
      have HM : Hid (∀ j, 2 ≤ j → j ∣ l / d → d ≤ j) := fun j h1 h2 => hmin j h1 (Nat.dvd_trans h2 (Nat.div_dvd_of_dvd hdv))
      have hB1 := hb.trans (hb1.mono hb.size)
      have hr : (l : Int) % (d : Int) = 0 := by
        have := Nat.mod_eq_zero_of_dvd hdv
        rw [← Int.natCast_emod]; omega
      have hdz : ¬ (d : Int) = 0 := by omega
      have hdp : (0 : Int) < (d : Int) := by omega
      have hkd' : decide (d < k) = false := decide_eq_false (by omega)
      have hkd2 : ¬ d < k := by omega
      have hq : (l : Int) / (d : Int) = ((l / d : Nat) : Int) := by rw [Int.natCast_ediv]
      obtain ⟨m, hm⟩ : ∃ m, m = l / d := ⟨_, rfl⟩
      rw [← hm] at hq hs1 hs2
      have HMm : Hid (m = l / d) := hm
      have HIs : Hid (∀ wx : World, Calls Try.prog 7 #[.int .u64 (d : Int)] wx fun e w' => e = .returned (.tuple #[.bool true, .int .i64 0]) ∧ Below wx.heap.size wx w') := fun wx => by
        have := HI.out d wx (by omega)
        rw [(is_near (n := d) (by omega)).1, (is_near (n := d) (by omega)).2, prB_of hpr] at this
        exact this
      clear hm hs3 hlo hdv hmin hpr HK HP hb hb1 hkd
      go_wp2_with fail
      refine (HIs.out _).mono ?_
      rintro e w2 ⟨rfl, hb2⟩
      have hB2 := hB1.trans (hb2.mono hB1.size)
      clear HIs hB1 hb2
      go_wp2
      go_roundw
      case rel => exact ⟨m, d, i + 1, by first | rw [hq] | go_num, by go_num, by go_num, hs1, by omega, by show _ ≤ _; rw [HMm.out]; exact HS.out, by show ∀ _, _; rw [HMm.out]; exact HM.out, hB2⟩
      case measure => simp [intOf]; omega
    · have c2' : decide ((1 : Int) < (l : Int)) = false := decide_eq_false c2
      obtain rfl : l = 1 := by omega
      clear HP HK
      go_wp2
      go_ret
      exact ⟨rfl, hb⟩
end Go.Proofs.Ytmkohcchgnaboaa

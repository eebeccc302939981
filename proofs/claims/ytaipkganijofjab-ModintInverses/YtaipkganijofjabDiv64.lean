/-
  What math/bits.Div64 answers here: the quotient and the rest of two words by one.
-/
import Derived.Test.YtaipkganijofjabBits
import Derived.Laws.Bits64b
import Derived.Deep.DeepCutAuto
import Derived.Deep.CutBlock
import Derived.Outline
namespace Go.Proofs.Ytaipkganijofjab
open Go.RowKit Go.Shelf

def lz64_ren : Go.Shelf.Ren := ⟨fun | 134 => 103 | 129 => 100 | n => n, fun | 53 => 29 | 3 => 3 | 4 => 4 | 46 => 104 | 5 => 5 | 9 => 9 | n => n, fun n => n⟩
theorem lz64_lays : Lays.n134 Try.prog lz64_ren :=
  { mixed := by kernel_rfl, f129 := Try.func100.trans (by kernel_rfl), f134 := Try.func103.trans (by kernel_rfl),
    t3 := Try.underlying3, a3 := Try.isAgg3, z3 := Try.sizeOf3, v3 := Try.zeroValue3,
    t4 := Try.underlying4, a4 := Try.isAgg4, z4 := Try.sizeOf4, v4 := Try.zeroValue4,
    t5 := Try.underlying5, a5 := Try.isAgg5, z5 := Try.sizeOf5, v5 := Try.zeroValue5,
    t9 := Try.underlying9, a9 := Try.isAgg9, z9 := Try.sizeOf9, v9 := Try.zeroValue9,
    t46 := Try.underlying104, a46 := Try.isAgg104, z46 := Try.sizeOf104, v46 := Try.zeroValue104,
    t53 := Try.underlying29, a53 := Try.isAgg29, z53 := Try.sizeOf29, v53 := Try.zeroValue29 }

theorem lz64_any (x : Int) (hx : 0 ≤ x ∧ x < 18446744073709551616) (w : World) :
    Calls Try.prog 103 #[.int .u64 x] w fun e w' => e = .returned (.int .i64 (64 - bl x)) ∧ w' = w :=
  Any.bits_LeadingZeros64 lz64_lays x w hx.1 (by omega)

/-- The word's place of its highest bit: moved up by s, its highest bit is set. -/
theorem norm_of {y : Int} (h0 : 0 < y) (h1 : y < 18446744073709551616) : ∃ s : Nat, 64 - bl y = (s : Int) ∧ s ≤ 63 ∧ 9223372036854775808 ≤ y * 2 ^ s ∧ y * 2 ^ s < 18446744073709551616 := by
  obtain ⟨n, rfl⟩ := Int.eq_ofNat_of_zero_le (Int.le_of_lt h0)
  have hb := bl_bd (x := (n : Int)) (by omega) h1
  have h2 := lt_bl n (by omega)
  have h3 := le_bl n (by omega) (by omega)
  unfold bl at hb ⊢
  simp only [Int.toNat_natCast] at hb ⊢
  have hpos : 0 < Lib.bitLen n := by
    by_cases h : Lib.bitLen n = 0
    · rw [h] at h2; simp at h2; omega
    · omega
  refine ⟨64 - Lib.bitLen n, by omega, by omega, ?_, ?_⟩
  · have e : 2 ^ (Lib.bitLen n - 1) * 2 ^ (64 - Lib.bitLen n) = 2 ^ 63 := by rw [← Nat.pow_add]; congr 1; omega
    have := Nat.mul_le_mul_right (2 ^ (64 - Lib.bitLen n)) h3
    rw [e] at this
    have h5 : ((n * 2 ^ (64 - Lib.bitLen n) : Nat) : Int) = (n : Int) * 2 ^ (64 - Lib.bitLen n) := by simp
    rw [← h5]; omega
  · have e : 2 ^ Lib.bitLen n * 2 ^ (64 - Lib.bitLen n) = 2 ^ 64 := by rw [← Nat.pow_add]; congr 1; omega
    have hp : 0 < 2 ^ (64 - Lib.bitLen n) := Nat.pow_pos (by omega)
    have := Nat.mul_lt_mul_of_pos_right h2 hp
    rw [e] at this
    have h5 : ((n * 2 ^ (64 - Lib.bitLen n) : Nat) : Int) = (n : Int) * 2 ^ (64 - Lib.bitLen n) := by simp
    rw [← h5]; omega

theorem mul_nonneg' {a b : Int} (ha : 0 ≤ a) (hb : 0 ≤ b) : 0 ≤ a * b := Int.mul_nonneg ha hb

theorem and_mask {x : Int} (h : 0 ≤ x ∧ x < 18446744073709551616) : bits .and .u64 x 4294967295 = x % 4294967296 := by
  obtain ⟨n, rfl⟩ := Int.eq_ofNat_of_zero_le h.1
  have h1 := bits_and_u64_nat n 4294967295 (by omega) (by omega)
  have e : n &&& 4294967295 = n % 4294967296 := Nat.and_two_pow_sub_one_eq_mod n 32
  rw [e] at h1
  exact h1.trans (by omega)

theorem or_shift {h c : Int} {s : Nat} (h0 : 0 ≤ h) (h1 : h * 2 ^ s < 18446744073709551616) (c0 : 0 ≤ c) (c1 : c < 2 ^ s) (c2 : c < 18446744073709551616) : bits .or .u64 (h * 2 ^ s) c = h * 2 ^ s + c := by
  obtain ⟨n, rfl⟩ := Int.eq_ofNat_of_zero_le h0
  obtain ⟨m, rfl⟩ := Int.eq_ofNat_of_zero_le c0
  have e1 : (n : Int) * 2 ^ s = ((2 ^ s * n : Nat) : Int) := by simp [Int.mul_comm]
  have e2 : ((2 ^ s : Nat) : Int) = (2 : Int) ^ s := by simp
  rw [← e2] at c1
  rw [e1] at h1 ⊢
  have h3 := bits_or_u64_nat (2 ^ s * n) m (by omega) (by omega)
  rw [← Nat.two_pow_add_eq_or_of_lt (by omega : m < 2 ^ s) n] at h3
  exact h3.trans (by simp)

theorem div_norm {h lw y : Int} {s : Nat} (hl : 0 ≤ lw ∧ lw < 18446744073709551616) (hh : 0 ≤ h) (hhy : h < y) (hn2 : y * 2 ^ s < 18446744073709551616) (hs63 : s ≤ 64) :
    IntKind.u64.wrap (h * 2 ^ s) = h * 2 ^ s ∧ bits .or .u64 (h * 2 ^ s) (lw / 2 ^ (64 - s)) = h * 2 ^ s + lw / 2 ^ (64 - s) ∧
    (h * 18446744073709551616 + lw) * 2 ^ s = (h * 2 ^ s + lw / 2 ^ (64 - s)) * 18446744073709551616 + IntKind.u64.wrap (lw * 2 ^ s) ∧ (0 ≤ IntKind.u64.wrap (lw * 2 ^ s) ∧ IntKind.u64.wrap (lw * 2 ^ s) < 18446744073709551616) ∧
    (0 ≤ h * 2 ^ s + lw / 2 ^ (64 - s) ∧ h * 2 ^ s + lw / 2 ^ (64 - s) < y * 2 ^ s) := by
  have hp := pow_pos' (B := 2) (by decide) s
  have hr := pow_pos' (B := 2) (by decide) (64 - s)
  have hpr : (2 : Int) ^ s * 2 ^ (64 - s) = 18446744073709551616 := by rw [← Int.pow_add, show s + (64 - s) = 64 by omega]; decide
  have a1 : (h + 1) * 2 ^ s ≤ y * 2 ^ s := Int.mul_le_mul_of_nonneg_right (by omega) (by omega)
  rw [Int.add_mul] at a1
  have a0 : 0 ≤ h * 2 ^ s := mul_nonneg' hh (by omega)
  have hq0 : 0 ≤ lw / 2 ^ (64 - s) := Int.ediv_nonneg hl.1 (by omega)
  have hq1 : lw / 2 ^ (64 - s) < 2 ^ s := Int.ediv_lt_of_lt_mul hr (by rw [hpr]; exact hl.2)
  have em := Int.emod_add_mul_ediv lw (2 ^ (64 - s))
  have m0 := Int.emod_nonneg lw (show (2 : Int) ^ (64 - s) ≠ 0 by omega)
  have m1 := Int.emod_lt_of_pos lw hr
  have ew : IntKind.u64.wrap (lw * 2 ^ s) = lw % 2 ^ (64 - s) * 2 ^ s ∧ lw % 2 ^ (64 - s) * 2 ^ s < 18446744073709551616 ∧ 0 ≤ lw % 2 ^ (64 - s) * 2 ^ s ∧ lw * 2 ^ s = lw % 2 ^ (64 - s) * 2 ^ s + 18446744073709551616 * (lw / 2 ^ (64 - s)) := by
    have e1 : lw * 2 ^ s = lw % 2 ^ (64 - s) * 2 ^ s + 18446744073709551616 * (lw / 2 ^ (64 - s)) := by
      have : (lw % 2 ^ (64 - s) + 2 ^ (64 - s) * (lw / 2 ^ (64 - s))) * 2 ^ s = lw * 2 ^ s := by rw [em]
      rw [Int.add_mul] at this
      rw [← this, ← hpr, Int.mul_comm (2 ^ s), Int.mul_assoc, Int.mul_assoc, Int.mul_comm (2 ^ s)]
    have e2 : lw % 2 ^ (64 - s) * 2 ^ s < 18446744073709551616 := by
      have : lw % 2 ^ (64 - s) * 2 ^ s < 2 ^ (64 - s) * 2 ^ s := Int.mul_lt_mul_of_pos_right m1 hp
      rw [Int.mul_comm (2 ^ (64 - s)), hpr] at this; exact this
    have e3 : 0 ≤ lw % 2 ^ (64 - s) * 2 ^ s := mul_nonneg' m0 (by omega)
    refine ⟨?_, e2, e3, e1⟩
    rw [IntKind.wrap_u64, e1]
    omega
  refine ⟨by rw [IntKind.wrap_u64]; omega, or_shift hh (by omega) hq0 hq1 (by omega), ?_, by rw [ew.1]; exact ⟨ew.2.2.1, ew.2.1⟩, by omega, by omega⟩
  rw [ew.1, Int.add_mul, ew.2.2.2, Int.add_mul]
  have : h * 18446744073709551616 * 2 ^ s = h * 2 ^ s * 18446744073709551616 := by rw [Int.mul_assoc, Int.mul_comm 18446744073709551616, ← Int.mul_assoc]
  omega

/-- The parts of a divisor whose highest bit is set. -/
structure Parts (Y y1 y0 : Int) : Prop where
  eq : Y = 4294967296 * y1 + y0
  b1 : 2147483648 ≤ y1 ∧ y1 < 4294967296
  b0 : 0 ≤ y0 ∧ y0 < 4294967296

theorem Parts.mul {Y y1 y0 : Int} (h : Parts Y y1 y0) (q : Int) : q * Y = 4294967296 * (q * y1) + q * y0 := by
  rw [h.eq, Int.mul_add, Int.mul_left_comm]

/-- A guess of one digit: not below it. -/
structure Guess (Y y1 U u q r : Int) : Prop where
  eq : U = q * y1 + r
  r0 : 0 ≤ r ∧ r < 4294967296
  q0 : 0 ≤ q ∧ q ≤ 4294967297
  up : U * 4294967296 + u < (q + 1) * Y

theorem guess_init {Y y1 y0 U u : Int} (h : Parts Y y1 y0) (hU : 0 ≤ U ∧ U < Y) (hu : 0 ≤ u ∧ u < 4294967296) : Guess Y y1 U u (U / y1) (U - U / y1 * y1) := by
  have hb := h.b1
  have hb0 := h.b0
  have e := Int.emod_add_mul_ediv U y1
  have e' : U - U / y1 * y1 = U % y1 := by rw [Int.mul_comm]; omega
  have m0 := Int.emod_nonneg U (show y1 ≠ 0 by omega)
  have m1 := Int.emod_lt_of_pos U (show 0 < y1 by omega)
  have q0 : 0 ≤ U / y1 := Int.ediv_nonneg hU.1 (by omega)
  have hm := h.mul (U / y1 + 1)
  have hn : 0 ≤ (U / y1 + 1) * y0 := mul_nonneg' (by omega) hb0.1
  rw [Int.mul_comm y1] at e
  generalize hq : U / y1 = q at *
  refine ⟨by omega, by omega, ⟨q0, ?_⟩, ?_⟩
  · by_cases hc : q ≤ 4294967297
    · exact hc
    · have : 4294967298 * y1 ≤ q * y1 := Int.mul_le_mul_of_nonneg_right (by omega) (by omega)
      have := h.eq
      omega
  · rw [hm, Int.add_mul]
    omega

theorem guess_down1 {Y y1 y0 U u q : Int} (h : Parts Y y1 y0) (hU : U < Y) (hu : u < 4294967296) (hq : 4294967296 ≤ q) : U * 4294967296 + u < q * Y := by
  have : 4294967296 * Y ≤ q * Y := Int.mul_le_mul_of_nonneg_right hq (by have := h.eq; have := h.b1; have := h.b0; omega)
  omega
theorem Guess.down2 {Y y1 y0 U u q r : Int} (h : Parts Y y1 y0) (g : Guess Y y1 U u q r) (hq : 4294967296 * r + u < q * y0) : U * 4294967296 + u < q * Y := by
  have := h.mul q
  have := g.eq
  omega
theorem Guess.next {Y y1 U u q r : Int} (g : Guess Y y1 U u q r) (hlt : U * 4294967296 + u < q * Y) (hU : 0 ≤ U) (hu : 0 ≤ u) : U = (q - 1) * y1 + (r + y1) ∧ 1 ≤ q ∧ U * 4294967296 + u < (q - 1 + 1) * Y := by
  have e := g.eq
  have hq := g.q0
  refine ⟨by rw [Int.sub_mul]; omega, ?_, by rw [Int.sub_add_cancel]; exact hlt⟩
  by_cases h1 : 1 ≤ q
  · exact h1
  · have : q = 0 := by omega
    subst this; simp at hlt; omega
theorem guess_stop {Y y1 y0 U u q r : Int} (h : Parts Y y1 y0) (e : U = q * y1 + r) (hs : q * y0 ≤ 4294967296 * r + u) : q * Y ≤ U * 4294967296 + u := by
  have := h.mul q
  omega
theorem guess_break {Y y1 y0 U u q r : Int} (h : Parts Y y1 y0) (e : U = q * y1 + r) (hq : 0 ≤ q ∧ q ≤ 4294967296) (hr : 4294967296 ≤ r) (hu : 0 ≤ u) : q * Y ≤ U * 4294967296 + u := by
  have h1 := h.mul q
  have hb := h.b0
  have h2 : q * y0 ≤ 4294967296 * y0 := Int.mul_le_mul_of_nonneg_right hq.2 hb.1
  omega
/-- The digit itself. -/
structure Digit (Y U u q : Int) : Prop where
  lo : q * Y ≤ U * 4294967296 + u
  up : U * 4294967296 + u < (q + 1) * Y
  b : 0 ≤ q ∧ q < 4294967296
theorem digit_mk {Y U u q : Int} (hY : 0 < Y) (hU : U < Y) (hu : u < 4294967296) (h0 : 0 ≤ q) (hl : q * Y ≤ U * 4294967296 + u) (hu' : U * 4294967296 + u < (q + 1) * Y) : Digit Y U u q := by
  refine ⟨hl, hu', h0, ?_⟩
  by_cases hc : q < 4294967296
  · exact hc
  · have : 4294967296 * Y ≤ q * Y := Int.mul_le_mul_of_nonneg_right (by omega) (by omega)
    omega

theorem div_fin {h lw y Y U W V R u1 u0 q1 q0 : Int} {s : Nat} (e : (h * 18446744073709551616 + lw) * 2 ^ s = U * 18446744073709551616 + W) (eW : W = 4294967296 * u1 + u0) (eV : V = U * 4294967296 + u1 - q1 * Y) (eR : R = V * 4294967296 + u0 - q0 * Y) (eY : y * 2 ^ s = Y) (hR : 0 ≤ R ∧ R < Y) :
    h * 18446744073709551616 + lw = (q1 * 4294967296 + q0) * y + R / 2 ^ s ∧ (0 ≤ R / 2 ^ s ∧ R / 2 ^ s < y) := by
  have hp := pow_pos' (B := 2) (by decide) s
  generalize (2 : Int) ^ s = p at *
  generalize h * 18446744073709551616 + lw = N at *
  have e1 : N * p = (q1 * 4294967296 + q0) * Y + R := by
    have f1 : (q1 * 4294967296 + q0) * Y = q1 * Y * 4294967296 + q0 * Y := by rw [Int.add_mul, Int.mul_right_comm]
    omega
  have e2 : R = p * (N - (q1 * 4294967296 + q0) * y) := by
    rw [← eY, ← Int.mul_assoc] at e1
    rw [Int.mul_sub, Int.mul_comm p N, Int.mul_comm p]
    omega
  have e3 : R / p = N - (q1 * 4294967296 + q0) * y := by rw [e2]; exact Int.mul_ediv_cancel_left _ (by omega)
  refine ⟨by omega, Int.ediv_nonneg hR.1 (by omega), Int.ediv_lt_of_lt_mul hp (by rw [eY]; exact hR.2)⟩

set_option maxHeartbeats 1600000 in
theorem div64_low (lw y : Int) (hl : 0 ≤ lw ∧ lw < 18446744073709551616) (hy : 0 < y ∧ y < 18446744073709551616) (w : World) :
    Calls Try.prog 102 #[.int .u64 0, .int .u64 lw, .int .u64 y] w fun e w' => ∃ q r, e = .returned (.tuple #[.int .u64 q, .int .u64 r]) ∧ 0 * 18446744073709551616 + lw = q * y + r ∧ (0 ≤ r ∧ r < y) ∧ (0 ≤ q ∧ q < 18446744073709551616) ∧ ∃ n, w' = w.drewN n := by
  have hy0 : (y == 0) = false := by simp; omega
  have hle : ¬ y ≤ 0 := by omega
  go_enter Try.func102, Try.ntmps102
  go_wp2
  go_quiet (fail)
  go_wp2
  go_ret2
  refine ⟨_, _, rfl, ?_, ⟨Int.emod_nonneg _ (by omega), Int.emod_lt_of_pos _ (by omega)⟩, ⟨Int.ediv_nonneg hl.1 (by omega), ?_⟩, nq, rfl⟩
  · have := Int.emod_add_mul_ediv lw y; rw [Int.mul_comm] at this; omega
  · have := Int.ediv_le_self y hl.1; omega

set_option maxHeartbeats 1600000 in
theorem div64_high (h lw y : Int) (hl : 0 ≤ lw ∧ lw < 18446744073709551616) (hh : 0 < h) (hhy : h < y) (hy : y < 18446744073709551616) (w : World) :
    Calls Try.prog 102 #[.int .u64 h, .int .u64 lw, .int .u64 y] w fun e w' => ∃ q r, e = .returned (.tuple #[.int .u64 q, .int .u64 r]) ∧ h * 18446744073709551616 + lw = q * y + r ∧ (0 ≤ r ∧ r < y) ∧ (0 ≤ q ∧ q < 18446744073709551616) ∧ ∃ n, w' = w.drewN n := by
  have hy0 : (y == 0) = false := by simp; omega
  have hh0 : (h == 0) = false := by simp; omega
  have hle : ¬ y ≤ h := by omega
  obtain ⟨s, hs, hs63, hn1, hn2⟩ := norm_of (show 0 < y by omega) hy
  have HS : Hid (64 - bl y = (s : Int)) := hs
  clear hs
  go_enter Try.func102, Try.ntmps102
  go_wp2_with fail
  refine (lz64_any _ ⟨by omega, hy⟩ _).mono ?_
  rintro e w' ⟨rfl, hw'⟩
  subst hw'
  rw [HS.out]
  obtain ⟨n1, n2, n3, n4, n5⟩ := div_norm hl (by omega) hhy hn2 (by omega)
  have m1 := and_mask (x := y * 2 ^ s) ⟨by omega, hn2⟩
  have m2 := and_mask n4
  have HN : Hid (IntKind.u64.wrap (h * 2 ^ s) = h * 2 ^ s ∧ bits .or .u64 (h * 2 ^ s) (lw / 2 ^ (64 - s)) = h * 2 ^ s + lw / 2 ^ (64 - s) ∧ bits .and .u64 (y * 2 ^ s) 4294967295 = y * 2 ^ s % 4294967296 ∧ bits .and .u64 (IntKind.u64.wrap (lw * 2 ^ s)) 4294967295 = IntKind.u64.wrap (lw * 2 ^ s) % 4294967296) := ⟨n1, n2, m1, m2⟩
  have HE : Hid ((h * 18446744073709551616 + lw) * 2 ^ s = (h * 2 ^ s + lw / 2 ^ (64 - s)) * 18446744073709551616 + IntKind.u64.wrap (lw * 2 ^ s)) := n3
  clear n1 n2 m1 m2 n3
  go_upto_region 15 with fail
  rw [HN.out.1, HN.out.2.1, HN.out.2.2.1, HN.out.2.2.2]
  clear HN
  generalize hW : IntKind.u64.wrap (lw * 2 ^ s) = W at n4 HE ⊢
  generalize hU : h * 2 ^ s + lw / 2 ^ (64 - s) = U at n5 HE ⊢
  generalize hYY : y * 2 ^ s = Y at hn1 hn2 n5 ⊢
  have HY : Hid (y * 2 ^ s = Y) := hYY
  clear hW hU hYY
  have hP : Parts Y (Y / 4294967296) (Y % 4294967296) := ⟨by omega, by omega, by omega⟩
  have hw1 : 0 ≤ W / 4294967296 ∧ W / 4294967296 < 4294967296 := by omega
  have hw0 : 0 ≤ W % 4294967296 ∧ W % 4294967296 < 4294967296 := by omega
  have hWe : W = 4294967296 * (W / 4294967296) + W % 4294967296 := by omega
  generalize Y / 4294967296 = y1 at hP ⊢
  generalize Y % 4294967296 = y0 at hP ⊢
  generalize W / 4294967296 = u1 at hw1 hWe ⊢
  generalize W % 4294967296 = u0 at hw0 hWe ⊢
  have HW : Hid (W = 4294967296 * u1 + u0) := hWe
  clear hWe
  have hy1 := hP.b1
  have hy0 := hP.b0
  have g0 := guess_init hP n5 hw1
  have gr := g0.r0
  have gq := g0.q0
  have HP : Hid (Parts Y y1 y0) := hP
  have HG : Hid (Guess Y y1 U u1 (U / y1) (U - U / y1 * y1)) := g0
  clear hP g0
  obtain ⟨q, hq⟩ : ∃ q, q = U / y1 := ⟨_, rfl⟩
  rw [← hq] at gr gq HG
  obtain ⟨r, hr⟩ : ∃ r, r = U - q * y1 := ⟨_, rfl⟩
  have hqy : 0 ≤ q * y1 ∧ q * y1 ≤ U := ⟨mul_nonneg' gq.1 (by omega), by omega⟩
  have HQ : Hid (q = U / y1 ∧ r = U - q * y1) := ⟨hq, hr⟩
  rw [← hr] at gr HG
  clear hq hr
  go_upto_region 16 with fail
  rw [← HQ.out.1]
  go_upto_block 0 with fail
  go_cut [15, 16] (fun qv rv wx => ∃ q', qv = .int .u64 q' ∧ Digit Y U u1 q' ∧ w' = wx)
  case first =>
    go_wp2_with fail
    go_loop [15, 16] (fun qv rv => ∃ q r, qv = .int .u64 q ∧ rv = .int .u64 r ∧ Guess Y y1 U u1 q r) (fun qv _ => (intOf qv).toNat)
    case atStart => exact ⟨_, _, rfl, rfl, by rw [← HQ.out.2]; exact HG.out⟩
    case round =>
      obtain ⟨q, r, rfl, rfl, g⟩ := hrel
      have hr0 := g.r0
      have hq0 := g.q0
      have HGG : Hid (Guess Y y1 U u1 q r) := g
      clear g
      by_cases c1 : 4294967296 ≤ q
      · have hlt := guess_down1 HP.out n5.2 hw1.2 c1
        obtain ⟨x1, x2, x3⟩ := HGG.out.next hlt n5.1 hw1.1
        have HX : Hid (U = (q - 1) * y1 + (r + y1) ∧ U * 4294967296 + u1 < (q - 1 + 1) * Y) := ⟨x1, x3⟩
        clear hlt x1 x3
        by_cases c2 : 4294967296 ≤ r + y1
        · go_wp2
          go_meet
          case rel => exact ⟨q - 1, rfl, digit_mk (by omega) n5.2 hw1.2 (by omega) (guess_break HP.out HX.out.1 ⟨by omega, by omega⟩ c2 hw1.1) HX.out.2, rfl⟩
        · go_wp2
          go_round
          case rel => exact ⟨q - 1, r + y1, rfl, rfl, HX.out.1, by omega, by omega, HX.out.2⟩
          case measure => simp [intOf]; omega
      · have hd1 : decide (4294967296 ≤ q) = false := by simp; omega
        have p0 : 0 ≤ q * y0 := mul_nonneg' hq0.1 hy0.1
        have p1 : q * y0 ≤ 4294967295 * y0 := Int.mul_le_mul_of_nonneg_right (by omega) hy0.1
        have p2 : q * y0 ≤ 18446744065119617025 := by omega
        clear p1
        by_cases c3 : 4294967296 * r + u1 < q * y0
        · have hlt := Guess.down2 HP.out HGG.out c3
          obtain ⟨x1, x2, x3⟩ := HGG.out.next hlt n5.1 hw1.1
          have HX : Hid (U = (q - 1) * y1 + (r + y1) ∧ U * 4294967296 + u1 < (q - 1 + 1) * Y) := ⟨x1, x3⟩
          clear hlt x1 x3
          by_cases c2 : 4294967296 ≤ r + y1
          · go_wp2
            go_meet
            case rel => exact ⟨q - 1, rfl, digit_mk (by omega) n5.2 hw1.2 (by omega) (guess_break HP.out HX.out.1 ⟨by omega, by omega⟩ c2 hw1.1) HX.out.2, rfl⟩
          · go_wp2
            go_round
            case rel => exact ⟨q - 1, r + y1, rfl, rfl, HX.out.1, by omega, by omega, HX.out.2⟩
            case measure => simp [intOf]; omega
        · go_wp2
          go_meet
          case rel => exact ⟨q, rfl, digit_mk (by omega) n5.2 hw1.2 hq0.1 (guess_stop HP.out HGG.out.eq (by omega)) HGG.out.up, rfl⟩
  case rest =>
    obtain ⟨q1, rfl, dg1, hwc⟩ := hcut
    subst hwc
    have dq1 := dg1.b
    have HD1 : Hid (Digit Y U u1 q1) := dg1
    have hv1 : q1 * Y ≤ U * 4294967296 + u1 ∧ U * 4294967296 + u1 < q1 * Y + Y := ⟨dg1.lo, by have := dg1.up; rw [Int.add_mul] at this; omega⟩
    clear dg1
    obtain ⟨V, hV⟩ : ∃ V, V = U * 4294967296 + u1 - q1 * Y := ⟨_, rfl⟩
    have hVb : 0 ≤ V ∧ V < Y := by omega
    have hwr : IntKind.u64.wrap (IntKind.u64.wrap (IntKind.u64.wrap (U * 4294967296) + u1) - IntKind.u64.wrap (q1 * Y)) = V := by
      simp only [IntKind.wrap_u64]
      omega
    have HV : Hid (V = U * 4294967296 + u1 - q1 * Y ∧ IntKind.u64.wrap (IntKind.u64.wrap (IntKind.u64.wrap (U * 4294967296) + u1) - IntKind.u64.wrap (q1 * Y)) = V) := ⟨hV, hwr⟩
    clear hV hwr hv1
    go_upto_region 22 with fail
    rw [HV.out.2]
    have g2 := guess_init HP.out hVb hw0
    have gr2 := g2.r0
    have gq2 := g2.q0
    have HG2 : Hid (Guess Y y1 V u0 (V / y1) (V - V / y1 * y1)) := g2
    clear g2
    obtain ⟨q2, hq2⟩ : ∃ q2, q2 = V / y1 := ⟨_, rfl⟩
    rw [← hq2] at gr2 gq2 HG2
    obtain ⟨r2, hr2⟩ : ∃ r2, r2 = V - q2 * y1 := ⟨_, rfl⟩
    have hqy2 : 0 ≤ q2 * y1 ∧ q2 * y1 ≤ V := ⟨mul_nonneg' gq2.1 (by omega), by omega⟩
    have HQ2 : Hid (q2 = V / y1 ∧ r2 = V - q2 * y1) := ⟨hq2, hr2⟩
    rw [← hr2] at gr2 HG2
    clear hq2 hr2
    go_upto_region 23 with fail
    rw [← HQ2.out.1]
    go_upto_block 2 with fail
    go_cut [18, 16] (fun qv rv wx => ∃ q', qv = .int .u64 q' ∧ Digit Y V u0 q' ∧ w' = wx)
    case first =>
      go_wp2_with fail
      go_loop [18, 16] (fun qv rv => ∃ q r, qv = .int .u64 q ∧ rv = .int .u64 r ∧ Guess Y y1 V u0 q r) (fun qv _ => (intOf qv).toNat)
      case atStart => exact ⟨_, _, rfl, rfl, by rw [← HQ2.out.2]; exact HG2.out⟩
      case round =>
        obtain ⟨q, r, rfl, rfl, g⟩ := hrel
        have hr0 := g.r0
        have hq0 := g.q0
        have HGG : Hid (Guess Y y1 V u0 q r) := g
        clear g
        by_cases c1 : 4294967296 ≤ q
        · have hlt := guess_down1 HP.out hVb.2 hw0.2 c1
          obtain ⟨x1, x2, x3⟩ := HGG.out.next hlt hVb.1 hw0.1
          have HX : Hid (V = (q - 1) * y1 + (r + y1) ∧ V * 4294967296 + u0 < (q - 1 + 1) * Y) := ⟨x1, x3⟩
          clear hlt x1 x3
          by_cases c2 : 4294967296 ≤ r + y1
          · go_wp2
            go_meet
            case rel => exact ⟨q - 1, rfl, digit_mk (by omega) hVb.2 hw0.2 (by omega) (guess_break HP.out HX.out.1 ⟨by omega, by omega⟩ c2 hw0.1) HX.out.2, rfl⟩
          · go_wp2
            go_round
            case rel => exact ⟨q - 1, r + y1, rfl, rfl, HX.out.1, by omega, by omega, HX.out.2⟩
            case measure => simp [intOf]; omega
        · have hd1 : decide (4294967296 ≤ q) = false := by simp; omega
          have p0 : 0 ≤ q * y0 := mul_nonneg' hq0.1 hy0.1
          have p1 : q * y0 ≤ 4294967295 * y0 := Int.mul_le_mul_of_nonneg_right (by omega) hy0.1
          have p2 : q * y0 ≤ 18446744065119617025 := by omega
          clear p1
          by_cases c3 : 4294967296 * r + u0 < q * y0
          · have hlt := Guess.down2 HP.out HGG.out c3
            obtain ⟨x1, x2, x3⟩ := HGG.out.next hlt hVb.1 hw0.1
            have HX : Hid (V = (q - 1) * y1 + (r + y1) ∧ V * 4294967296 + u0 < (q - 1 + 1) * Y) := ⟨x1, x3⟩
            clear hlt x1 x3
            by_cases c2 : 4294967296 ≤ r + y1
            · go_wp2
              go_meet
              case rel => exact ⟨q - 1, rfl, digit_mk (by omega) hVb.2 hw0.2 (by omega) (guess_break HP.out HX.out.1 ⟨by omega, by omega⟩ c2 hw0.1) HX.out.2, rfl⟩
            · go_wp2
              go_round
              case rel => exact ⟨q - 1, r + y1, rfl, rfl, HX.out.1, by omega, by omega, HX.out.2⟩
              case measure => simp [intOf]; omega
          · go_wp2
            go_meet
            case rel => exact ⟨q, rfl, digit_mk (by omega) hVb.2 hw0.2 hq0.1 (guess_stop HP.out HGG.out.eq (by omega)) HGG.out.up, rfl⟩
    case rest =>
      obtain ⟨q0, rfl, dg0, hwc⟩ := hcut
      subst hwc
      have dq0 := dg0.b
      have hv0 : q0 * Y ≤ V * 4294967296 + u0 ∧ V * 4294967296 + u0 < q0 * Y + Y := ⟨dg0.lo, by have := dg0.up; rw [Int.add_mul] at this; omega⟩
      clear dg0
      obtain ⟨R, hR⟩ : ∃ R, R = V * 4294967296 + u0 - q0 * Y := ⟨_, rfl⟩
      have hRb : 0 ≤ R ∧ R < Y := by omega
      have hwr : IntKind.u64.wrap (IntKind.u64.wrap (IntKind.u64.wrap (V * 4294967296) + u0) - IntKind.u64.wrap (q0 * Y)) = R := by
        simp only [IntKind.wrap_u64]
        omega
      have HR : Hid (R = V * 4294967296 + u0 - q0 * Y ∧ IntKind.u64.wrap (IntKind.u64.wrap (IntKind.u64.wrap (V * 4294967296) + u0) - IntKind.u64.wrap (q0 * Y)) = R) := ⟨hR, hwr⟩
      clear hR hwr hv0
      go_wp2
      go_ret2
      rw [HR.out.2]
      have fin := div_fin HE.out HW.out HV.out.1 HR.out.1 HY.out hRb
      exact ⟨_, _, rfl, fin.1, fin.2, ⟨by omega, by omega⟩, 0, rfl⟩
end Go.Proofs.Ytaipkganijofjab

/-
  Contracts of Bits and Bit, the program's and the document's: how many bits a number has, and which.
  What math/bits.Div64 answers here: the quotient and the rest of two words by one.
  The contract of divideBy: a number by one word, in its place.
  Contracts of movedUp and movedDown: a number times, and by, a power of 2.
  The contract of movedDown: a number by a power of 2, without the rest.
-/
import Derived.Test.YtchmlfjjgehbkaaNatB
import Derived.Shelf.Small.Bits
import Derived.Laws.Bits64b
import Derived.Deep.DeepCutAuto
import Derived.Deep.CutBlock
import Derived.Outline
namespace Go.Proofs.Ytchmlfjjgehbkaa
open Go.RowKit Go.Shelf

def len64_ren : Go.Shelf.Ren := ⟨fun | 129 => 103 | n => n, fun | 53 => 45 | 3 => 3 | 4 => 4 | 46 => 119 | 5 => 5 | 9 => 9 | n => n, fun n => n⟩
theorem len64_lays : Lays.n129 Try.prog len64_ren :=
  { mixed := by kernel_rfl, f129 := Try.func103.trans (by kernel_rfl),
    t3 := Try.underlying3, a3 := Try.isAgg3, z3 := Try.sizeOf3, v3 := Try.zeroValue3,
    t4 := Try.underlying4, a4 := Try.isAgg4, z4 := Try.sizeOf4, v4 := Try.zeroValue4,
    t5 := Try.underlying5, a5 := Try.isAgg5, z5 := Try.sizeOf5, v5 := Try.zeroValue5,
    t9 := Try.underlying9, a9 := Try.isAgg9, z9 := Try.sizeOf9, v9 := Try.zeroValue9,
    t46 := Try.underlying119, a46 := Try.isAgg119, z46 := Try.sizeOf119, v46 := Try.zeroValue119,
    t53 := Try.underlying45, a53 := Try.isAgg45, z53 := Try.sizeOf45, v53 := Try.zeroValue45 }

/-- How many bits a word has. -/
def bl (x : Int) : Int := (Lib.bitLen x.toNat : Int)

theorem len64_any (x : Int) (hx : 0 ≤ x ∧ x < 18446744073709551616) (w : World) :
    Calls Try.prog 103 #[.int .u64 x] w fun e w' => e = .returned (.int .i64 (bl x)) ∧ w' = w :=
  Any.bits_Len64 len64_lays x w hx.1 (by omega)

theorem bl_zero : bl 0 = 0 := by decide
theorem bl_half {x : Int} (h0 : 0 < x) (h : x < 18446744073709551616) : bl x = 1 + bl (x / 2) := by
  unfold bl
  rw [Lib.bitLen_half x.toNat (by omega) (by omega), show (x / 2).toNat = x.toNat / 2 by omega]
  omega
theorem bl_bd {x : Int} (h0 : 0 ≤ x) (h : x < 18446744073709551616) : 0 ≤ bl x ∧ bl x ≤ 64 := by
  unfold bl
  have := Lib.bitLen_le x.toNat 64 (by omega) (by omega)
  omega

theorem lt_bitLenAux : ∀ (f x : Nat), x < 2 ^ f → x < 2 ^ (Lib.bitLenAux f x)
  | 0, x, h => by simp at h; subst h; simp [Lib.bitLenAux]
  | f + 1, x, h => by
    simp only [Lib.bitLenAux]
    split
    · rename_i h0; subst h0; simp
    · have := lt_bitLenAux f (x / 2) (by rw [Nat.pow_succ] at h; omega)
      rw [Nat.add_comm, Nat.pow_succ]; omega
theorem lt_bl (x : Nat) (h : x < 18446744073709551616) : x < 2 ^ Lib.bitLen x := lt_bitLenAux 64 x (by omega)
theorem le_bitLenAux : ∀ (f x : Nat), x < 2 ^ f → 0 < x → 2 ^ (Lib.bitLenAux f x - 1) ≤ x
  | 0, x, h, h0 => by simp at h; omega
  | f + 1, x, h, h0 => by
    simp only [Lib.bitLenAux]
    rw [if_neg (by omega)]
    by_cases h1 : x / 2 = 0
    · rw [h1]; cases f <;> simp [Lib.bitLenAux] <;> omega
    · have h2 := le_bitLenAux f (x / 2) (by rw [Nat.pow_succ] at h; omega) (by omega)
      have h3 : 0 < Lib.bitLenAux f (x / 2) := by
        cases f with
        | zero => rw [Nat.pow_succ] at h; simp at h; omega
        | succ f => simp only [Lib.bitLenAux]; rw [if_neg h1]; omega
      rw [show 1 + Lib.bitLenAux f (x / 2) - 1 = (Lib.bitLenAux f (x / 2) - 1) + 1 by omega, Nat.pow_succ]
      omega
theorem le_bl (x : Nat) (h : x < 18446744073709551616) (h0 : 0 < x) : 2 ^ (Lib.bitLen x - 1) ≤ x := le_bitLenAux 64 x (by omega) h0

/-- How many bits a number has; which they are. -/
def bitsZ (zs : List Int) : Int := if rightB zs && decide (0 < zs.length) then ((zs.length : Int) - 1) * 64 + bl (zs.getD (zs.length - 1) 0) else 0
def bitB (zs : List Int) (i : Int) : Bool := rightB zs && (decide (0 ≤ i) && (decide (i / 64 < (zs.length : Int)) && decide (zs.getD (i / 64).toNat 0 / 2 ^ (i % 64).toNat % 2 = 1)))


theorem bitsZ_pos {zs : List Int} (hr : rightB zs = true) (hp : 0 < zs.length) : bitsZ zs = ((zs.length : Int) - 1) * 64 + bl (zs.getD (zs.length - 1) 0) := by
  unfold bitsZ; rw [if_pos (by simp [hr, hp])]
theorem bitB_in {zs : List Int} {i : Int} (hr : rightB zs = true) (h0 : 0 ≤ i) (h1 : i / 64 < (zs.length : Int)) : bitB zs i = decide (zs.getD (i / 64).toNat 0 / 2 ^ (i % 64).toNat % 2 = 1) := by
  unfold bitB; rw [hr, decide_eq_true h0, decide_eq_true h1]; rfl

theorem bitB_top {zs : List Int} {i : Int} (hd : Digs 18446744073709551616 zs) (hi : 0 ≤ i) (hge : bitsZ zs ≤ i) : bitB zs i = false := by
  cases hr : rightB zs with
  | false => simp [bitB, hr]
  | true =>
    by_cases h1 : i / 64 < (zs.length : Int)
    · have hlen : 0 < zs.length := by omega
      have hw := hd.getD (by decide) (zs.length - 1)
      have hb := bl_bd hw.1 hw.2
      have e1 := bitsZ_pos hr hlen
      rw [e1] at hge
      have e2 : (i / 64).toNat = zs.length - 1 := by omega
      have e3 : zs.getD (zs.length - 1) 0 / 2 ^ (i % 64).toNat = 0 := by
        refine Int.ediv_eq_zero_of_lt hw.1 ?_
        obtain ⟨n, hn⟩ := Int.eq_ofNat_of_zero_le hw.1
        rw [hn] at hw hge hb ⊢
        have h2 := lt_bl n (by omega)
        have h3 : Lib.bitLen n ≤ (i % 64).toNat := by unfold bl at hge hb; simp at hge hb; omega
        have h4 := Nat.pow_le_pow_right (n := 2) (by omega) h3
        have h5 : ((2 ^ (i % 64).toNat : Nat) : Int) = (2 : Int) ^ (i % 64).toNat := by simp
        rw [← h5]; omega
      rw [bitB_in hr hi h1, e2, e3]; decide
    · simp [bitB, h1]


end Go.Proofs.Ytchmlfjjgehbkaa

namespace Go.Proofs.Ytchmlfjjgehbkaa
open Go.RowKit Go.Shelf

def lz64_ren : Go.Shelf.Ren := ⟨fun | 134 => 94 | 129 => 103 | n => n, fun | 53 => 45 | 3 => 3 | 4 => 4 | 46 => 119 | 5 => 5 | 9 => 9 | n => n, fun n => n⟩
theorem lz64_lays : Lays.n134 Try.prog lz64_ren :=
  { mixed := by kernel_rfl, f129 := Try.func103.trans (by kernel_rfl), f134 := Try.func94.trans (by kernel_rfl),
    t3 := Try.underlying3, a3 := Try.isAgg3, z3 := Try.sizeOf3, v3 := Try.zeroValue3,
    t4 := Try.underlying4, a4 := Try.isAgg4, z4 := Try.sizeOf4, v4 := Try.zeroValue4,
    t5 := Try.underlying5, a5 := Try.isAgg5, z5 := Try.sizeOf5, v5 := Try.zeroValue5,
    t9 := Try.underlying9, a9 := Try.isAgg9, z9 := Try.sizeOf9, v9 := Try.zeroValue9,
    t46 := Try.underlying119, a46 := Try.isAgg119, z46 := Try.sizeOf119, v46 := Try.zeroValue119,
    t53 := Try.underlying45, a53 := Try.isAgg45, z53 := Try.sizeOf45, v53 := Try.zeroValue45 }

theorem lz64_any (x : Int) (hx : 0 ≤ x ∧ x < 18446744073709551616) (w : World) :
    Calls Try.prog 94 #[.int .u64 x] w fun e w' => e = .returned (.int .i64 (64 - bl x)) ∧ w' = w :=
  Any.bits_LeadingZeros64 lz64_lays x w hx.1 (by omega)

/-- The word's place of its highest bit: moved up by s, its highest bit is set. -/
theorem norm_of {y : Int} (h0 : 0 < y) (h1 : y < 18446744073709551616) : ∃ s : Nat, 64 - bl y = (s : Int) ∧ s ≤ 63 ∧ 9223372036854775808 ≤ y * 2 ^ s ∧ y * 2 ^ s < 18446744073709551616 := by
  obtain ⟨n, rfl⟩ := Int.eq_ofNat_of_zero_le (Int.le_of_lt h0)
  have hb := bl_bd (x := (n : Int)) (by omega) h1
  have h2 := lt_bl n (by omega)
  have h3 := le_bl n (by omega) (by omega)
  unfold bl at hb ⊢
  simp only [Int.toNat_natCast] at hb ⊢
  have hpos : 0 < Lib.bitLen n := by
    by_cases h : Lib.bitLen n = 0
    · rw [h] at h2; simp at h2; omega
    · omega
  refine ⟨64 - Lib.bitLen n, by omega, by omega, ?_, ?_⟩
  · have e : 2 ^ (Lib.bitLen n - 1) * 2 ^ (64 - Lib.bitLen n) = 2 ^ 63 := by rw [← Nat.pow_add]; congr 1; omega
    have := Nat.mul_le_mul_right (2 ^ (64 - Lib.bitLen n)) h3
    rw [e] at this
    have h5 : ((n * 2 ^ (64 - Lib.bitLen n) : Nat) : Int) = (n : Int) * 2 ^ (64 - Lib.bitLen n) := by simp
    rw [← h5]; omega
  · have e : 2 ^ Lib.bitLen n * 2 ^ (64 - Lib.bitLen n) = 2 ^ 64 := by rw [← Nat.pow_add]; congr 1; omega
    have hp : 0 < 2 ^ (64 - Lib.bitLen n) := Nat.pow_pos (by omega)
    have := Nat.mul_lt_mul_of_pos_right h2 hp
    rw [e] at this
    have h5 : ((n * 2 ^ (64 - Lib.bitLen n) : Nat) : Int) = (n : Int) * 2 ^ (64 - Lib.bitLen n) := by simp
    rw [← h5]; omega

theorem mul_nonneg' {a b : Int} (ha : 0 ≤ a) (hb : 0 ≤ b) : 0 ≤ a * b := Int.mul_nonneg ha hb

theorem and_mask {x : Int} (h : 0 ≤ x ∧ x < 18446744073709551616) : bits .and .u64 x 4294967295 = x % 4294967296 := by
  obtain ⟨n, rfl⟩ := Int.eq_ofNat_of_zero_le h.1
  have h1 := bits_and_u64_nat n 4294967295 (by omega) (by omega)
  have e : n &&& 4294967295 = n % 4294967296 := Nat.and_two_pow_sub_one_eq_mod n 32
  rw [e] at h1
  exact h1.trans (by omega)

theorem or_shift {h c : Int} {s : Nat} (h0 : 0 ≤ h) (h1 : h * 2 ^ s < 18446744073709551616) (c0 : 0 ≤ c) (c1 : c < 2 ^ s) (c2 : c < 18446744073709551616) : bits .or .u64 (h * 2 ^ s) c = h * 2 ^ s + c := by
  obtain ⟨n, rfl⟩ := Int.eq_ofNat_of_zero_le h0
  obtain ⟨m, rfl⟩ := Int.eq_ofNat_of_zero_le c0
  have e1 : (n : Int) * 2 ^ s = ((2 ^ s * n : Nat) : Int) := by simp [Int.mul_comm]
  have e2 : ((2 ^ s : Nat) : Int) = (2 : Int) ^ s := by simp
  rw [← e2] at c1
  rw [e1] at h1 ⊢
  have h3 := bits_or_u64_nat (2 ^ s * n) m (by omega) (by omega)
  rw [← Nat.two_pow_add_eq_or_of_lt (by omega : m < 2 ^ s) n] at h3
  exact h3.trans (by simp)

theorem div_norm {h lw y : Int} {s : Nat} (hl : 0 ≤ lw ∧ lw < 18446744073709551616) (hh : 0 ≤ h) (hhy : h < y) (hn2 : y * 2 ^ s < 18446744073709551616) (hs63 : s ≤ 64) :
    IntKind.u64.wrap (h * 2 ^ s) = h * 2 ^ s ∧ bits .or .u64 (h * 2 ^ s) (lw / 2 ^ (64 - s)) = h * 2 ^ s + lw / 2 ^ (64 - s) ∧
    (h * 18446744073709551616 + lw) * 2 ^ s = (h * 2 ^ s + lw / 2 ^ (64 - s)) * 18446744073709551616 + IntKind.u64.wrap (lw * 2 ^ s) ∧ (0 ≤ IntKind.u64.wrap (lw * 2 ^ s) ∧ IntKind.u64.wrap (lw * 2 ^ s) < 18446744073709551616) ∧
    (0 ≤ h * 2 ^ s + lw / 2 ^ (64 - s) ∧ h * 2 ^ s + lw / 2 ^ (64 - s) < y * 2 ^ s) := by
  have hp := pow_pos' (B := 2) (by decide) s
  have hr := pow_pos' (B := 2) (by decide) (64 - s)
  have hpr : (2 : Int) ^ s * 2 ^ (64 - s) = 18446744073709551616 := by rw [← Int.pow_add, show s + (64 - s) = 64 by omega]; decide
  have a1 : (h + 1) * 2 ^ s ≤ y * 2 ^ s := Int.mul_le_mul_of_nonneg_right (by omega) (by omega)
  rw [Int.add_mul] at a1
  have a0 : 0 ≤ h * 2 ^ s := mul_nonneg' hh (by omega)
  have hq0 : 0 ≤ lw / 2 ^ (64 - s) := Int.ediv_nonneg hl.1 (by omega)
  have hq1 : lw / 2 ^ (64 - s) < 2 ^ s := Int.ediv_lt_of_lt_mul hr (by rw [hpr]; exact hl.2)
  have em := Int.emod_add_mul_ediv lw (2 ^ (64 - s))
  have m0 := Int.emod_nonneg lw (show (2 : Int) ^ (64 - s) ≠ 0 by omega)
  have m1 := Int.emod_lt_of_pos lw hr
  have ew : IntKind.u64.wrap (lw * 2 ^ s) = lw % 2 ^ (64 - s) * 2 ^ s ∧ lw % 2 ^ (64 - s) * 2 ^ s < 18446744073709551616 ∧ 0 ≤ lw % 2 ^ (64 - s) * 2 ^ s ∧ lw * 2 ^ s = lw % 2 ^ (64 - s) * 2 ^ s + 18446744073709551616 * (lw / 2 ^ (64 - s)) := by
    have e1 : lw * 2 ^ s = lw % 2 ^ (64 - s) * 2 ^ s + 18446744073709551616 * (lw / 2 ^ (64 - s)) := by
      have : (lw % 2 ^ (64 - s) + 2 ^ (64 - s) * (lw / 2 ^ (64 - s))) * 2 ^ s = lw * 2 ^ s := by rw [em]
      rw [Int.add_mul] at this
      rw [← this, ← hpr, Int.mul_comm (2 ^ s), Int.mul_assoc, Int.mul_assoc, Int.mul_comm (2 ^ s)]
    have e2 : lw % 2 ^ (64 - s) * 2 ^ s < 18446744073709551616 := by
      have : lw % 2 ^ (64 - s) * 2 ^ s < 2 ^ (64 - s) * 2 ^ s := Int.mul_lt_mul_of_pos_right m1 hp
      rw [Int.mul_comm (2 ^ (64 - s)), hpr] at this; exact this
    have e3 : 0 ≤ lw % 2 ^ (64 - s) * 2 ^ s := mul_nonneg' m0 (by omega)
    refine ⟨?_, e2, e3, e1⟩
    rw [IntKind.wrap_u64, e1]
    omega
  refine ⟨by rw [IntKind.wrap_u64]; omega, or_shift hh (by omega) hq0 hq1 (by omega), ?_, by rw [ew.1]; exact ⟨ew.2.2.1, ew.2.1⟩, by omega, by omega⟩
  rw [ew.1, Int.add_mul, ew.2.2.2, Int.add_mul]
  have : h * 18446744073709551616 * 2 ^ s = h * 2 ^ s * 18446744073709551616 := by rw [Int.mul_assoc, Int.mul_comm 18446744073709551616, ← Int.mul_assoc]
  omega

/-- The parts of a divisor whose highest bit is set. -/
structure Parts (Y y1 y0 : Int) : Prop where
  eq : Y = 4294967296 * y1 + y0
  b1 : 2147483648 ≤ y1 ∧ y1 < 4294967296
  b0 : 0 ≤ y0 ∧ y0 < 4294967296

theorem Parts.mul {Y y1 y0 : Int} (h : Parts Y y1 y0) (q : Int) : q * Y = 4294967296 * (q * y1) + q * y0 := by
  rw [h.eq, Int.mul_add, Int.mul_left_comm]

/-- A guess of one digit: not below it. -/
structure Guess (Y y1 U u q r : Int) : Prop where
  eq : U = q * y1 + r
  r0 : 0 ≤ r ∧ r < 4294967296
  q0 : 0 ≤ q ∧ q ≤ 4294967297
  up : U * 4294967296 + u < (q + 1) * Y

theorem guess_init {Y y1 y0 U u : Int} (h : Parts Y y1 y0) (hU : 0 ≤ U ∧ U < Y) (hu : 0 ≤ u ∧ u < 4294967296) : Guess Y y1 U u (U / y1) (U - U / y1 * y1) := by
  have hb := h.b1
  have hb0 := h.b0
  have e := Int.emod_add_mul_ediv U y1
  have e' : U - U / y1 * y1 = U % y1 := by rw [Int.mul_comm]; omega
  have m0 := Int.emod_nonneg U (show y1 ≠ 0 by omega)
  have m1 := Int.emod_lt_of_pos U (show 0 < y1 by omega)
  have q0 : 0 ≤ U / y1 := Int.ediv_nonneg hU.1 (by omega)
  have hm := h.mul (U / y1 + 1)
  have hn : 0 ≤ (U / y1 + 1) * y0 := mul_nonneg' (by omega) hb0.1
  rw [Int.mul_comm y1] at e
  generalize hq : U / y1 = q at *
  refine ⟨by omega, by omega, ⟨q0, ?_⟩, ?_⟩
  · by_cases hc : q ≤ 4294967297
    · exact hc
    · have : 4294967298 * y1 ≤ q * y1 := Int.mul_le_mul_of_nonneg_right (by omega) (by omega)
      have := h.eq
      omega
  · rw [hm, Int.add_mul]
    omega

theorem guess_down1 {Y y1 y0 U u q : Int} (h : Parts Y y1 y0) (hU : U < Y) (hu : u < 4294967296) (hq : 4294967296 ≤ q) : U * 4294967296 + u < q * Y := by
  have : 4294967296 * Y ≤ q * Y := Int.mul_le_mul_of_nonneg_right hq (by have := h.eq; have := h.b1; have := h.b0; omega)
  omega
theorem Guess.down2 {Y y1 y0 U u q r : Int} (h : Parts Y y1 y0) (g : Guess Y y1 U u q r) (hq : 4294967296 * r + u < q * y0) : U * 4294967296 + u < q * Y := by
  have := h.mul q
  have := g.eq
  omega
theorem Guess.next {Y y1 U u q r : Int} (g : Guess Y y1 U u q r) (hlt : U * 4294967296 + u < q * Y) (hU : 0 ≤ U) (hu : 0 ≤ u) : U = (q - 1) * y1 + (r + y1) ∧ 1 ≤ q ∧ U * 4294967296 + u < (q - 1 + 1) * Y := by
  have e := g.eq
  have hq := g.q0
  refine ⟨by rw [Int.sub_mul]; omega, ?_, by rw [Int.sub_add_cancel]; exact hlt⟩
  by_cases h1 : 1 ≤ q
  · exact h1
  · have : q = 0 := by omega
    subst this; simp at hlt; omega
theorem guess_stop {Y y1 y0 U u q r : Int} (h : Parts Y y1 y0) (e : U = q * y1 + r) (hs : q * y0 ≤ 4294967296 * r + u) : q * Y ≤ U * 4294967296 + u := by
  have := h.mul q
  omega
theorem guess_break {Y y1 y0 U u q r : Int} (h : Parts Y y1 y0) (e : U = q * y1 + r) (hq : 0 ≤ q ∧ q ≤ 4294967296) (hr : 4294967296 ≤ r) (hu : 0 ≤ u) : q * Y ≤ U * 4294967296 + u := by
  have h1 := h.mul q
  have hb := h.b0
  have h2 : q * y0 ≤ 4294967296 * y0 := Int.mul_le_mul_of_nonneg_right hq.2 hb.1
  omega
/-- The digit itself. -/
structure Digit (Y U u q : Int) : Prop where
  lo : q * Y ≤ U * 4294967296 + u
  up : U * 4294967296 + u < (q + 1) * Y
  b : 0 ≤ q ∧ q < 4294967296
theorem digit_mk {Y U u q : Int} (hY : 0 < Y) (hU : U < Y) (hu : u < 4294967296) (h0 : 0 ≤ q) (hl : q * Y ≤ U * 4294967296 + u) (hu' : U * 4294967296 + u < (q + 1) * Y) : Digit Y U u q := by
  refine ⟨hl, hu', h0, ?_⟩
  by_cases hc : q < 4294967296
  · exact hc
  · have : 4294967296 * Y ≤ q * Y := Int.mul_le_mul_of_nonneg_right (by omega) (by omega)
    omega

theorem div_fin {h lw y Y U W V R u1 u0 q1 q0 : Int} {s : Nat} (e : (h * 18446744073709551616 + lw) * 2 ^ s = U * 18446744073709551616 + W) (eW : W = 4294967296 * u1 + u0) (eV : V = U * 4294967296 + u1 - q1 * Y) (eR : R = V * 4294967296 + u0 - q0 * Y) (eY : y * 2 ^ s = Y) (hR : 0 ≤ R ∧ R < Y) :
    h * 18446744073709551616 + lw = (q1 * 4294967296 + q0) * y + R / 2 ^ s ∧ (0 ≤ R / 2 ^ s ∧ R / 2 ^ s < y) := by
  have hp := pow_pos' (B := 2) (by decide) s
  generalize (2 : Int) ^ s = p at *
  generalize h * 18446744073709551616 + lw = N at *
  have e1 : N * p = (q1 * 4294967296 + q0) * Y + R := by
    have f1 : (q1 * 4294967296 + q0) * Y = q1 * Y * 4294967296 + q0 * Y := by rw [Int.add_mul, Int.mul_right_comm]
    omega
  have e2 : R = p * (N - (q1 * 4294967296 + q0) * y) := by
    rw [← eY, ← Int.mul_assoc] at e1
    rw [Int.mul_sub, Int.mul_comm p N, Int.mul_comm p]
    omega
  have e3 : R / p = N - (q1 * 4294967296 + q0) * y := by rw [e2]; exact Int.mul_ediv_cancel_left _ (by omega)
  refine ⟨by omega, Int.ediv_nonneg hR.1 (by omega), Int.ediv_lt_of_lt_mul hp (by rw [eY]; exact hR.2)⟩

set_option maxHeartbeats 1600000 in
theorem div64_low (lw y : Int) (hl : 0 ≤ lw ∧ lw < 18446744073709551616) (hy : 0 < y ∧ y < 18446744073709551616) (w : World) :
    Calls Try.prog 93 #[.int .u64 0, .int .u64 lw, .int .u64 y] w fun e w' => ∃ q r, e = .returned (.tuple #[.int .u64 q, .int .u64 r]) ∧ 0 * 18446744073709551616 + lw = q * y + r ∧ (0 ≤ r ∧ r < y) ∧ (0 ≤ q ∧ q < 18446744073709551616) ∧ ∃ n, w' = w.drewN n := by
  have hy0 : (y == 0) = false := by simp; omega
  have hle : ¬ y ≤ 0 := by omega
  go_enter Try.func93, Try.ntmps93
  go_wp2
  go_quiet (fail)
  go_wp2
  go_ret2
  refine ⟨_, _, rfl, ?_, ⟨Int.emod_nonneg _ (by omega), Int.emod_lt_of_pos _ (by omega)⟩, ⟨Int.ediv_nonneg hl.1 (by omega), ?_⟩, nq, rfl⟩
  · have := Int.emod_add_mul_ediv lw y; rw [Int.mul_comm] at this; omega
  · have := Int.ediv_le_self y hl.1; omega

set_option maxHeartbeats 1600000 in
theorem div64_high (h lw y : Int) (hl : 0 ≤ lw ∧ lw < 18446744073709551616) (hh : 0 < h) (hhy : h < y) (hy : y < 18446744073709551616) (w : World) :
    Calls Try.prog 93 #[.int .u64 h, .int .u64 lw, .int .u64 y] w fun e w' => ∃ q r, e = .returned (.tuple #[.int .u64 q, .int .u64 r]) ∧ h * 18446744073709551616 + lw = q * y + r ∧ (0 ≤ r ∧ r < y) ∧ (0 ≤ q ∧ q < 18446744073709551616) ∧ ∃ n, w' = w.drewN n := by
  have hy0 : (y == 0) = false := by simp; omega
  have hh0 : (h == 0) = false := by simp; omega
  have hle : ¬ y ≤ h := by omega
  obtain ⟨s, hs, hs63, hn1, hn2⟩ := norm_of (show 0 < y by omega) hy
  have HS : Hid (64 - bl y = (s : Int)) := hs
  clear hs
  go_enter Try.func93, Try.ntmps93
  go_wp2_with fail
  refine (lz64_any _ ⟨by omega, hy⟩ _).mono ?_
  rintro e w' ⟨rfl, hw'⟩
  subst hw'
  rw [HS.out]
  obtain ⟨n1, n2, n3, n4, n5⟩ := div_norm hl (by omega) hhy hn2 (by omega)
  have m1 := and_mask (x := y * 2 ^ s) ⟨by omega, hn2⟩
  have m2 := and_mask n4
  have HN : Hid (IntKind.u64.wrap (h * 2 ^ s) = h * 2 ^ s ∧ bits .or .u64 (h * 2 ^ s) (lw / 2 ^ (64 - s)) = h * 2 ^ s + lw / 2 ^ (64 - s) ∧ bits .and .u64 (y * 2 ^ s) 4294967295 = y * 2 ^ s % 4294967296 ∧ bits .and .u64 (IntKind.u64.wrap (lw * 2 ^ s)) 4294967295 = IntKind.u64.wrap (lw * 2 ^ s) % 4294967296) := ⟨n1, n2, m1, m2⟩
  have HE : Hid ((h * 18446744073709551616 + lw) * 2 ^ s = (h * 2 ^ s + lw / 2 ^ (64 - s)) * 18446744073709551616 + IntKind.u64.wrap (lw * 2 ^ s)) := n3
  clear n1 n2 m1 m2 n3
  go_upto_region 15 with fail
  rw [HN.out.1, HN.out.2.1, HN.out.2.2.1, HN.out.2.2.2]
  clear HN
  generalize hW : IntKind.u64.wrap (lw * 2 ^ s) = W at n4 HE ⊢
  generalize hU : h * 2 ^ s + lw / 2 ^ (64 - s) = U at n5 HE ⊢
  generalize hYY : y * 2 ^ s = Y at hn1 hn2 n5 ⊢
  have HY : Hid (y * 2 ^ s = Y) := hYY
  clear hW hU hYY
  have hP : Parts Y (Y / 4294967296) (Y % 4294967296) := ⟨by omega, by omega, by omega⟩
  have hw1 : 0 ≤ W / 4294967296 ∧ W / 4294967296 < 4294967296 := by omega
  have hw0 : 0 ≤ W % 4294967296 ∧ W % 4294967296 < 4294967296 := by omega
  have hWe : W = 4294967296 * (W / 4294967296) + W % 4294967296 := by omega
  generalize Y / 4294967296 = y1 at hP ⊢
  generalize Y % 4294967296 = y0 at hP ⊢
  generalize W / 4294967296 = u1 at hw1 hWe ⊢
  generalize W % 4294967296 = u0 at hw0 hWe ⊢
  have HW : Hid (W = 4294967296 * u1 + u0) := hWe
  clear hWe
  have hy1 := hP.b1
  have hy0 := hP.b0
  have g0 := guess_init hP n5 hw1
  have gr := g0.r0
  have gq := g0.q0
  have HP : Hid (Parts Y y1 y0) := hP
  have HG : Hid (Guess Y y1 U u1 (U / y1) (U - U / y1 * y1)) := g0
  clear hP g0
  obtain ⟨q, hq⟩ : ∃ q, q = U / y1 := ⟨_, rfl⟩
  rw [← hq] at gr gq HG
  obtain ⟨r, hr⟩ : ∃ r, r = U - q * y1 := ⟨_, rfl⟩
  have hqy : 0 ≤ q * y1 ∧ q * y1 ≤ U := ⟨mul_nonneg' gq.1 (by omega), by omega⟩
  have HQ : Hid (q = U / y1 ∧ r = U - q * y1) := ⟨hq, hr⟩
  rw [← hr] at gr HG
  clear hq hr
  go_upto_region 16 with fail
  rw [← HQ.out.1]
  go_upto_block 0 with fail
  go_cut [15, 16] (fun qv rv wx => ∃ q', qv = .int .u64 q' ∧ Digit Y U u1 q' ∧ w' = wx)
  case first =>
    go_wp2_with fail
    go_loop [15, 16] (fun qv rv => ∃ q r, qv = .int .u64 q ∧ rv = .int .u64 r ∧ Guess Y y1 U u1 q r) (fun qv _ => (intOf qv).toNat)
    case atStart => exact ⟨_, _, rfl, rfl, by rw [← HQ.out.2]; exact HG.out⟩
    case round =>
      obtain ⟨q, r, rfl, rfl, g⟩ := hrel
      have hr0 := g.r0
      have hq0 := g.q0
      have HGG : Hid (Guess Y y1 U u1 q r) := g
      clear g
      by_cases c1 : 4294967296 ≤ q
      · have hlt := guess_down1 HP.out n5.2 hw1.2 c1
        obtain ⟨x1, x2, x3⟩ := HGG.out.next hlt n5.1 hw1.1
        have HX : Hid (U = (q - 1) * y1 + (r + y1) ∧ U * 4294967296 + u1 < (q - 1 + 1) * Y) := ⟨x1, x3⟩
        clear hlt x1 x3
        by_cases c2 : 4294967296 ≤ r + y1
        · go_wp2
          go_meet
          case rel => exact ⟨q - 1, rfl, digit_mk (by omega) n5.2 hw1.2 (by omega) (guess_break HP.out HX.out.1 ⟨by omega, by omega⟩ c2 hw1.1) HX.out.2, rfl⟩
        · go_wp2
          go_round
          case rel => exact ⟨q - 1, r + y1, rfl, rfl, HX.out.1, by omega, by omega, HX.out.2⟩
          case measure => simp [intOf]; omega
      · have hd1 : decide (4294967296 ≤ q) = false := by simp; omega
        have p0 : 0 ≤ q * y0 := mul_nonneg' hq0.1 hy0.1
        have p1 : q * y0 ≤ 4294967295 * y0 := Int.mul_le_mul_of_nonneg_right (by omega) hy0.1
        have p2 : q * y0 ≤ 18446744065119617025 := by omega
        clear p1
        by_cases c3 : 4294967296 * r + u1 < q * y0
        · have hlt := Guess.down2 HP.out HGG.out c3
          obtain ⟨x1, x2, x3⟩ := HGG.out.next hlt n5.1 hw1.1
          have HX : Hid (U = (q - 1) * y1 + (r + y1) ∧ U * 4294967296 + u1 < (q - 1 + 1) * Y) := ⟨x1, x3⟩
          clear hlt x1 x3
          by_cases c2 : 4294967296 ≤ r + y1
          · go_wp2
            go_meet
            case rel => exact ⟨q - 1, rfl, digit_mk (by omega) n5.2 hw1.2 (by omega) (guess_break HP.out HX.out.1 ⟨by omega, by omega⟩ c2 hw1.1) HX.out.2, rfl⟩
          · go_wp2
            go_round
            case rel => exact ⟨q - 1, r + y1, rfl, rfl, HX.out.1, by omega, by omega, HX.out.2⟩
            case measure => simp [intOf]; omega
        · go_wp2
          go_meet
          case rel => exact ⟨q, rfl, digit_mk (by omega) n5.2 hw1.2 hq0.1 (guess_stop HP.out HGG.out.eq (by omega)) HGG.out.up, rfl⟩
  case rest =>
    obtain ⟨q1, rfl, dg1, hwc⟩ := hcut
    subst hwc
    have dq1 := dg1.b
    have HD1 : Hid (Digit Y U u1 q1) := dg1
    have hv1 : q1 * Y ≤ U * 4294967296 + u1 ∧ U * 4294967296 + u1 < q1 * Y + Y := ⟨dg1.lo, by have := dg1.up; rw [Int.add_mul] at this; omega⟩
    clear dg1
    obtain ⟨V, hV⟩ : ∃ V, V = U * 4294967296 + u1 - q1 * Y := ⟨_, rfl⟩
    have hVb : 0 ≤ V ∧ V < Y := by omega
    have hwr : IntKind.u64.wrap (IntKind.u64.wrap (IntKind.u64.wrap (U * 4294967296) + u1) - IntKind.u64.wrap (q1 * Y)) = V := by
      simp only [IntKind.wrap_u64]
      omega
    have HV : Hid (V = U * 4294967296 + u1 - q1 * Y ∧ IntKind.u64.wrap (IntKind.u64.wrap (IntKind.u64.wrap (U * 4294967296) + u1) - IntKind.u64.wrap (q1 * Y)) = V) := ⟨hV, hwr⟩
    clear hV hwr hv1
    go_upto_region 22 with fail
    rw [HV.out.2]
    have g2 := guess_init HP.out hVb hw0
    have gr2 := g2.r0
    have gq2 := g2.q0
    have HG2 : Hid (Guess Y y1 V u0 (V / y1) (V - V / y1 * y1)) := g2
    clear g2
    obtain ⟨q2, hq2⟩ : ∃ q2, q2 = V / y1 := ⟨_, rfl⟩
    rw [← hq2] at gr2 gq2 HG2
    obtain ⟨r2, hr2⟩ : ∃ r2, r2 = V - q2 * y1 := ⟨_, rfl⟩
    have hqy2 : 0 ≤ q2 * y1 ∧ q2 * y1 ≤ V := ⟨mul_nonneg' gq2.1 (by omega), by omega⟩
    have HQ2 : Hid (q2 = V / y1 ∧ r2 = V - q2 * y1) := ⟨hq2, hr2⟩
    rw [← hr2] at gr2 HG2
    clear hq2 hr2
    go_upto_region 23 with fail
    rw [← HQ2.out.1]
    go_upto_block 2 with fail
    go_cut [18, 16] (fun qv rv wx => ∃ q', qv = .int .u64 q' ∧ Digit Y V u0 q' ∧ w' = wx)
    case first =>
      go_wp2_with fail
      go_loop [18, 16] (fun qv rv => ∃ q r, qv = .int .u64 q ∧ rv = .int .u64 r ∧ Guess Y y1 V u0 q r) (fun qv _ => (intOf qv).toNat)
      case atStart => exact ⟨_, _, rfl, rfl, by rw [← HQ2.out.2]; exact HG2.out⟩
      case round =>
        obtain ⟨q, r, rfl, rfl, g⟩ := hrel
        have hr0 := g.r0
        have hq0 := g.q0
        have HGG : Hid (Guess Y y1 V u0 q r) := g
        clear g
        by_cases c1 : 4294967296 ≤ q
        · have hlt := guess_down1 HP.out hVb.2 hw0.2 c1
          obtain ⟨x1, x2, x3⟩ := HGG.out.next hlt hVb.1 hw0.1
          have HX : Hid (V = (q - 1) * y1 + (r + y1) ∧ V * 4294967296 + u0 < (q - 1 + 1) * Y) := ⟨x1, x3⟩
          clear hlt x1 x3
          by_cases c2 : 4294967296 ≤ r + y1
          · go_wp2
            go_meet
            case rel => exact ⟨q - 1, rfl, digit_mk (by omega) hVb.2 hw0.2 (by omega) (guess_break HP.out HX.out.1 ⟨by omega, by omega⟩ c2 hw0.1) HX.out.2, rfl⟩
          · go_wp2
            go_round
            case rel => exact ⟨q - 1, r + y1, rfl, rfl, HX.out.1, by omega, by omega, HX.out.2⟩
            case measure => simp [intOf]; omega
        · have hd1 : decide (4294967296 ≤ q) = false := by simp; omega
          have p0 : 0 ≤ q * y0 := mul_nonneg' hq0.1 hy0.1
          have p1 : q * y0 ≤ 4294967295 * y0 := Int.mul_le_mul_of_nonneg_right (by omega) hy0.1
          have p2 : q * y0 ≤ 18446744065119617025 := by omega
          clear p1
          by_cases c3 : 4294967296 * r + u0 < q * y0
          · have hlt := Guess.down2 HP.out HGG.out c3
            obtain ⟨x1, x2, x3⟩ := HGG.out.next hlt hVb.1 hw0.1
            have HX : Hid (V = (q - 1) * y1 + (r + y1) ∧ V * 4294967296 + u0 < (q - 1 + 1) * Y) := ⟨x1, x3⟩
            clear hlt x1 x3
            by_cases c2 : 4294967296 ≤ r + y1
            · go_wp2
              go_meet
              case rel => exact ⟨q - 1, rfl, digit_mk (by omega) hVb.2 hw0.2 (by omega) (guess_break HP.out HX.out.1 ⟨by omega, by omega⟩ c2 hw0.1) HX.out.2, rfl⟩
            · go_wp2
              go_round
              case rel => exact ⟨q - 1, r + y1, rfl, rfl, HX.out.1, by omega, by omega, HX.out.2⟩
              case measure => simp [intOf]; omega
          · go_wp2
            go_meet
            case rel => exact ⟨q, rfl, digit_mk (by omega) hVb.2 hw0.2 hq0.1 (guess_stop HP.out HGG.out.eq (by omega)) HGG.out.up, rfl⟩
    case rest =>
      obtain ⟨q0, rfl, dg0, hwc⟩ := hcut
      subst hwc
      have dq0 := dg0.b
      have hv0 : q0 * Y ≤ V * 4294967296 + u0 ∧ V * 4294967296 + u0 < q0 * Y + Y := ⟨dg0.lo, by have := dg0.up; rw [Int.add_mul] at this; omega⟩
      clear dg0
      obtain ⟨R, hR⟩ : ∃ R, R = V * 4294967296 + u0 - q0 * Y := ⟨_, rfl⟩
      have hRb : 0 ≤ R ∧ R < Y := by omega
      have hwr : IntKind.u64.wrap (IntKind.u64.wrap (IntKind.u64.wrap (V * 4294967296) + u0) - IntKind.u64.wrap (q0 * Y)) = R := by
        simp only [IntKind.wrap_u64]
        omega
      have HR : Hid (R = V * 4294967296 + u0 - q0 * Y ∧ IntKind.u64.wrap (IntKind.u64.wrap (IntKind.u64.wrap (V * 4294967296) + u0) - IntKind.u64.wrap (q0 * Y)) = R) := ⟨hR, hwr⟩
      clear hR hwr hv0
      go_wp2
      go_ret2
      rw [HR.out.2]
      have fin := div_fin HE.out HW.out HV.out.1 HR.out.1 HY.out hRb
      exact ⟨_, _, rfl, fin.1, fin.2, ⟨by omega, by omega⟩, 0, rfl⟩
end Go.Proofs.Ytchmlfjjgehbkaa

namespace Go.Proofs.Ytchmlfjjgehbkaa
open Go.RowKit

theorem div64_any (h lw y : Int) (hh : 0 ≤ h) (hl : 0 ≤ lw ∧ lw < 18446744073709551616) (hhy : h < y) (hy : y < 18446744073709551616) (w : World) :
    Calls Try.prog 93 #[.int .u64 h, .int .u64 lw, .int .u64 y] w fun e w' => ∃ q r, e = .returned (.tuple #[.int .u64 q, .int .u64 r]) ∧ h * 18446744073709551616 + lw = q * y + r ∧ (0 ≤ r ∧ r < y) ∧ (0 ≤ q ∧ q < 18446744073709551616) ∧ ∃ n, w' = w.drewN n := by
  by_cases h0 : h = 0
  · subst h0; exact div64_low lw y hl ⟨hhy, hy⟩ w
  · exact div64_high h lw y hl (by omega) hhy hy w

theorem div64_eq (h lw y : Int) (hh : 0 ≤ h) (hl : 0 ≤ lw ∧ lw < 18446744073709551616) (hhy : h < y) (hy : y < 18446744073709551616) (w : World) :
    Calls Try.prog 93 #[.int .u64 h, .int .u64 lw, .int .u64 y] w fun e w' => e = .returned (.tuple #[.int .u64 ((h * 18446744073709551616 + lw) / y), .int .u64 ((h * 18446744073709551616 + lw) % y)]) ∧ ∃ n, w' = w.drewN n := by
  refine (div64_any h lw y hh hl hhy hy w).mono ?_
  rintro e w' ⟨q, r, rfl, heq, hr, hq, n, rfl⟩
  have e1 : (h * 18446744073709551616 + lw) / y = q := by
    rw [heq, Int.add_comm, Int.add_mul_ediv_right _ _ (by omega), Int.ediv_eq_zero_of_lt hr.1 hr.2, Int.zero_add]
  have e2 : (h * 18446744073709551616 + lw) % y = r := by
    rw [heq, Int.add_comm, Int.add_mul_emod_self_right, Int.emod_eq_of_lt hr.1 hr.2]
  rw [e1, e2]
  exact ⟨rfl, n, rfl⟩

theorem vs_head (B : Int) (f : Nat → Int) (n : Nat) : vs B f (n + 1) = f 0 + B * vs B (fun i => f (1 + i)) n := by
  have e : B ^ 1 = B := by rw [Int.pow_succ, Int.pow_zero, Int.one_mul]
  rw [Nat.add_comm, vs_add, e]; simp [vs]

theorem db_step {L M : List Int} {n i : Nat} {d r q r' : Int} (hi : i < n) (hn : n ≤ L.length) (hml : M.length = L.length) (hs : ∀ j, j < n - i ∨ n ≤ j → M.getD j 0 = L.getD j 0)
    (hv : vs 18446744073709551616 (fun t => L.getD (n - i + t) 0) i = d * vs 18446744073709551616 (fun t => M.getD (n - i + t) 0) i + r) (e : r * 18446744073709551616 + L.getD (n - 1 - i) 0 = q * d + r') :
    vs 18446744073709551616 (fun t => L.getD (n - (i + 1) + t) 0) (i + 1) = d * vs 18446744073709551616 (fun t => (M.set (n - 1 - i) q).getD (n - (i + 1) + t) 0) (i + 1) + r' ∧ (∀ j, j < n - (i + 1) ∨ n ≤ j → (M.set (n - 1 - i) q).getD j 0 = L.getD j 0) := by
  refine ⟨?_, fun j hj => by rw [getD_set_ne (by omega)]; exact hs j (by omega)⟩
  rw [vs_head, vs_head, show n - (i + 1) + 0 = n - 1 - i by omega, getD_set_self (by omega)]
  have e1 : vs 18446744073709551616 (fun t => L.getD (n - (i + 1) + (1 + t)) 0) i = vs 18446744073709551616 (fun t => L.getD (n - i + t) 0) i := vs_congr (fun t _ => by rw [show n - (i + 1) + (1 + t) = n - i + t by omega])
  have e2 : vs 18446744073709551616 (fun t => (M.set (n - 1 - i) q).getD (n - (i + 1) + (1 + t)) 0) i = vs 18446744073709551616 (fun t => M.getD (n - i + t) 0) i := vs_congr (fun t _ => by rw [show n - (i + 1) + (1 + t) = n - i + t by omega, getD_set_ne (by omega)])
  rw [e1, e2, hv, Int.mul_add, Int.mul_add, Int.mul_comm d q, Int.mul_left_comm d]
  omega

set_option maxHeartbeats 800000 in
theorem divideBy_any (s : Option Addr) (g n c : Nat) (L : List Int) (d : Int) (w : World) (hs : 0 < n → s = some ⟨g, 0, none⟩) (hblk : 0 < n → Blk w g L) (hL : Digs 18446744073709551616 L) (hnL : n ≤ L.length) (hn : n ≤ 100000) (hd : 0 < d ∧ d < 18446744073709551616) :
    Calls Try.prog 79 #[.slice s n c, .int .u64 d] w fun e w' => ∃ M r, e = .returned (.int .u64 r) ∧ (0 < n → Blk w' g M) ∧ Digs 18446744073709551616 M ∧ M.length = L.length ∧ (∀ j, n ≤ j → M.getD j 0 = L.getD j 0) ∧ (0 ≤ r ∧ r < d) ∧
      vs 18446744073709551616 (fun t => L.getD t 0) n = d * vs 18446744073709551616 (fun t => M.getD t 0) n + r ∧ w.grownBy w' (some g) := by
  go_enter Try.func79, Try.ntmps79
  go_wp2
  go_loopw [5, 10] (fun rv iv wr => ∃ i : Nat, i ≤ n ∧ iv = .int .i64 i ∧ ∃ M r, rv = .int .u64 r ∧ (0 < n → Blk wr g M) ∧ M.length = L.length ∧ Digs 18446744073709551616 M ∧ (∀ j, j < n - i ∨ n ≤ j → M.getD j 0 = L.getD j 0) ∧ (0 ≤ r ∧ r < d) ∧
      vs 18446744073709551616 (fun t => L.getD (n - i + t) 0) i = d * vs 18446744073709551616 (fun t => M.getD (n - i + t) 0) i + r ∧ w.grownBy wr (some g)) (fun _ iv _ => n - (intOf iv).toNat)
  case atStart => exact ⟨0, Nat.zero_le _, rfl, L, 0, rfl, hblk, rfl, hL, fun _ _ => rfl, by omega, by simp [vs], World.grownBy.refl _ _⟩
  case round =>
    obtain ⟨i, hi, rfl, M, r, rfl, hbM', hml, hmd, hsame, hr, hv, hgr⟩ := hrel
    by_cases hlt : i < n
    · have hbM := hbM' (by omega)
      obtain rfl := hs (by omega)
      obtain ⟨x, hx⟩ : ∃ x, x = M.getD (n - 1 - i) 0 := ⟨_, rfl⟩
      have hxL : L.getD (n - 1 - i) 0 = x := by rw [hx]; exact (hsame _ (by omega)).symm
      have hc1 : wr.cell? ⟨g, n - 1 - i, none⟩ = some (.int .u64 x) := by rw [hx]; exact hbM.cell (by omega)
      have hf1 : wr.frozen? ⟨g, n - 1 - i, none⟩ = false := hbM.frozen _
      have bx : 0 ≤ x ∧ x < 18446744073709551616 := by rw [hx]; exact hmd.getD (by decide) _
      have hlti : (i : Int) < (n : Int) := by omega
      have k0 : 0 ≤ (n : Int) - 1 - (i : Int) := by omega
      have k1 : (n : Int) - 1 - (i : Int) < (n : Int) := by omega
      have HD := (show Hid _ from div64_any r x d hr.1 bx hr.2 hd.2)
      have HI : Hid (M.length = L.length ∧ Digs 18446744073709551616 M ∧ (∀ j, j < n - i ∨ n ≤ j → M.getD j 0 = L.getD j 0) ∧ vs 18446744073709551616 (fun t => L.getD (n - i + t) 0) i = d * vs 18446744073709551616 (fun t => M.getD (n - i + t) 0) i + r ∧ L.getD (n - 1 - i) 0 = x) := ⟨hml, hmd, hsame, hv, hxL⟩
      clear hx hml hmd hsame hv hxL hbM' hL hblk
      go_wp2_with fail
      refine (HD.out _).mono ?_
      rintro e w1 ⟨q, r', rfl, hqr, hr', hq, m, rfl⟩
      have R := db_step hlt hnL HI.out.1 HI.out.2.2.1 HI.out.2.2.2.1 (by rw [HI.out.2.2.2.2]; exact hqr)
      have HR := (show Hid _ from R)
      have HB := (show Hid _ from hbM.set (n - 1 - i) q)
      have HG := (show Hid _ from grown_trans hgr (grown_set wr g (n - 1 - i) (.int .u64 q)))
      clear R hqr hbM hgr
      go_wp2
      go_roundw
      case rel => exact ⟨i + 1, by omega, by go_num, _, _, rfl, fun _ => HB.out, by simpa using HI.out.1, HI.out.2.1.set _ hq, HR.out.2, hr', HR.out.1, grown_trans HG.out ⟨rfl, rfl, rfl, Nat.le_refl _, fun _ _ _ => rfl⟩⟩
      case measure => simp [intOf]; omega
    · obtain rfl : i = n := by omega
      have hfin : vs 18446744073709551616 (fun t => L.getD t 0) i = d * vs 18446744073709551616 (fun t => M.getD t 0) i + r := by simpa using hv
      have HF : Hid (vs 18446744073709551616 (fun t => L.getD t 0) i = d * vs 18446744073709551616 (fun t => M.getD t 0) i + r) := hfin
      clear hfin hv
      go_wp2
      go_ret
      exact ⟨M, r, rfl, hbM', hmd, hml, fun j hj => hsame j (.inr hj), hr, HF.out, hgr⟩
end Go.Proofs.Ytchmlfjjgehbkaa

namespace Go.Proofs.Ytchmlfjjgehbkaa
open Go.RowKit

theorem pr_eq {p : Nat} (hp : p ≤ 64) : (2 : Int) ^ p * 2 ^ (64 - p) = 18446744073709551616 := by rw [← Int.pow_add, show p + (64 - p) = 64 by omega]; decide

/-- The two parts of a word that is moved up by p. -/
theorem shl_parts {g : Int} {p : Nat} (hg : 0 ≤ g ∧ g < 18446744073709551616) (hp : p ≤ 64) :
    IntKind.u64.wrap (g * 2 ^ p) + 18446744073709551616 * (g / 2 ^ (64 - p)) = g * 2 ^ p ∧ IntKind.u64.wrap (g * 2 ^ p) = g % 2 ^ (64 - p) * 2 ^ p ∧ (0 ≤ g / 2 ^ (64 - p) ∧ g / 2 ^ (64 - p) < 2 ^ p) ∧ (0 ≤ IntKind.u64.wrap (g * 2 ^ p) ∧ IntKind.u64.wrap (g * 2 ^ p) < 18446744073709551616) := by
  have hpr := pr_eq hp
  have h1 := pow_pos' (B := 2) (by decide) p
  have h2 := pow_pos' (B := 2) (by decide) (64 - p)
  have em := Int.emod_add_mul_ediv g (2 ^ (64 - p))
  have m0 := Int.emod_nonneg g (show (2 : Int) ^ (64 - p) ≠ 0 by omega)
  have m1 := Int.emod_lt_of_pos g h2
  have q0 : 0 ≤ g / 2 ^ (64 - p) := Int.ediv_nonneg hg.1 (by omega)
  have q1 : g / 2 ^ (64 - p) < 2 ^ p := Int.ediv_lt_of_lt_mul h2 (by rw [hpr]; exact hg.2)
  have e1 : g * 2 ^ p = g % 2 ^ (64 - p) * 2 ^ p + 18446744073709551616 * (g / 2 ^ (64 - p)) := by
    have : (g % 2 ^ (64 - p) + 2 ^ (64 - p) * (g / 2 ^ (64 - p))) * 2 ^ p = g * 2 ^ p := by rw [em]
    rw [Int.add_mul] at this
    rw [← this, ← hpr, Int.mul_comm (2 ^ p), Int.mul_assoc, Int.mul_assoc, Int.mul_comm (2 ^ p)]
  have e2 : g % 2 ^ (64 - p) * 2 ^ p < 18446744073709551616 := by
    have : g % 2 ^ (64 - p) * 2 ^ p < 2 ^ (64 - p) * 2 ^ p := Int.mul_lt_mul_of_pos_right m1 h1
    rw [Int.mul_comm (2 ^ (64 - p)), hpr] at this; exact this
  have e3 : 0 ≤ g % 2 ^ (64 - p) * 2 ^ p := mul_nonneg' m0 (by omega)
  have ew : IntKind.u64.wrap (g * 2 ^ p) = g % 2 ^ (64 - p) * 2 ^ p := by rw [IntKind.wrap_u64, e1]; omega
  exact ⟨by rw [ew]; omega, ew, ⟨q0, q1⟩, by rw [ew]; exact ⟨e3, e2⟩⟩

/-- Bits that do not meet. -/
theorem or_parts {g c : Int} {p : Nat} (hg : 0 ≤ g) (hw : g * 2 ^ p < 18446744073709551616) (c0 : 0 ≤ c) (c1 : c < 2 ^ p) (hp : p ≤ 64) : bits .or .u64 (g * 2 ^ p) c = g * 2 ^ p + c := by
  have h1 := pow_pos' (B := 2) (by decide) p
  have h2 := pow_pos' (B := 2) (by decide) (64 - p)
  have hpr := pr_eq hp
  have h3 : (2 : Int) ^ p * 1 ≤ 2 ^ p * 2 ^ (64 - p) := Int.mul_le_mul_of_nonneg_left (by omega) (by omega)
  exact or_shift hg hw c0 c1 (by omega)

/-- The limb that is laid at a place of what is moved up. -/
def upL (xs : List Int) (whole part : Nat) (i : Nat) : Int := IntKind.u64.wrap (limbZ xs ((i : Int) - whole) * 2 ^ part) + limbZ xs ((i : Int) - whole - 1) / 2 ^ (64 - part)

theorem limbZ_bd {xs : List Int} (h : Digs 18446744073709551616 xs) (i : Int) : 0 ≤ limbZ xs i ∧ limbZ xs i < 18446744073709551616 := by
  unfold limbZ; split
  · omega
  · exact h.getD (by decide) _

theorem upL_or {xs : List Int} (h : Digs 18446744073709551616 xs) (whole : Nat) {part : Nat} (hp : part ≤ 63) (i : Nat) :
    bits .or .u64 (IntKind.u64.wrap (limbZ xs ((i : Int) - whole) * 2 ^ part)) (limbZ xs ((i : Int) - whole - 1) / 2 ^ (64 - part)) = upL xs whole part i ∧ (0 ≤ upL xs whole part i ∧ upL xs whole part i < 18446744073709551616) := by
  have a := shl_parts (limbZ_bd h ((i : Int) - whole)) (show part ≤ 64 by omega)
  have b := shl_parts (limbZ_bd h ((i : Int) - whole - 1)) (show part ≤ 64 by omega)
  have hpr := pr_eq (show part ≤ 64 by omega)
  have h2 := pow_pos' (B := 2) (by decide) (64 - part)
  have hp' := pow_pos' (B := 2) (by decide) part
  unfold upL
  rw [a.2.1]
  have m0 : 0 ≤ limbZ xs ((i : Int) - whole) % 2 ^ (64 - part) := Int.emod_nonneg _ (by omega)
  have m1 : limbZ xs ((i : Int) - whole) % 2 ^ (64 - part) < 2 ^ (64 - part) := Int.emod_lt_of_pos _ h2
  have e2 : (limbZ xs ((i : Int) - whole) % 2 ^ (64 - part) + 1) * 2 ^ part ≤ 2 ^ (64 - part) * 2 ^ part := Int.mul_le_mul_of_nonneg_right (by omega) (by omega)
  rw [Int.mul_comm (2 ^ (64 - part)), hpr, Int.add_mul] at e2
  have e3 : 0 ≤ limbZ xs ((i : Int) - whole) % 2 ^ (64 - part) * 2 ^ part := mul_nonneg' m0 (by omega)
  exact ⟨or_parts m0 (by omega) b.2.2.1.1 b.2.2.1.2 (by omega), by omega, by omega⟩

/-- What the limbs that are moved up come to. -/
theorem up_sum {xs : List Int} (h : Digs 18446744073709551616 xs) (whole : Nat) {part : Nat} (hp : part ≤ 63) (i : Nat) :
    vs 18446744073709551616 (upL xs whole part) i + 18446744073709551616 ^ i * (limbZ xs ((i : Int) - whole - 1) / 2 ^ (64 - part)) = 2 ^ part * vs 18446744073709551616 (fun j => limbZ xs ((j : Int) - whole)) i := by
  induction i with
  | zero =>
    have : limbZ xs (((0 : Nat) : Int) - whole - 1) = 0 := by unfold limbZ; rw [if_pos (by omega)]
    rw [this]; simp [vs]
  | succ i ih =>
    have a := (shl_parts (limbZ_bd h ((i : Int) - whole)) (show part ≤ 64 by omega)).1
    have e1 : (((i + 1 : Nat) : Int) - whole - 1) = (i : Int) - whole := by omega
    simp only [vs]
    rw [e1, Int.mul_add, ← ih, Int.pow_succ, Int.mul_assoc]
    have e2 : upL xs whole part i = IntKind.u64.wrap (limbZ xs ((i : Int) - whole) * 2 ^ part) + limbZ xs ((i : Int) - whole - 1) / 2 ^ (64 - part) := rfl
    rw [e2, Int.mul_add]
    generalize (18446744073709551616 : Int) ^ i = P
    have e3 : 2 ^ part * (P * limbZ xs ((i : Int) - whole)) = P * (limbZ xs ((i : Int) - whole) * 2 ^ part) := by rw [Int.mul_left_comm, Int.mul_comm (2 ^ part)]
    have e4 : P * IntKind.u64.wrap (limbZ xs ((i : Int) - whole) * 2 ^ part) + P * (18446744073709551616 * (limbZ xs ((i : Int) - whole) / 2 ^ (64 - part))) = P * (limbZ xs ((i : Int) - whole) * 2 ^ part) := by rw [← Int.mul_add, a]
    rw [e3]
    omega

theorem up_limbs (xs : List Int) (whole : Nat) (m : Nat) (hm : whole ≤ m) : vs 18446744073709551616 (fun j => limbZ xs ((j : Int) - whole)) m = 18446744073709551616 ^ whole * val 18446744073709551616 (xs.take (m - whole)) := by
  obtain ⟨k, rfl⟩ : ∃ k, m = whole + k := ⟨m - whole, by omega⟩
  rw [vs_add, vs_zero (n := whole) _ (fun i hi => by unfold limbZ; rw [if_pos (by omega)]), Nat.add_sub_cancel_left, ← vs_val, Int.zero_add]
  congr 1
  exact vs_congr (fun i _ => by unfold limbZ; rw [if_neg (by omega)]; congr 1; omega)

theorem up_end {xs L : List Int} (h : Digs 18446744073709551616 xs) {whole part m : Nat} (hp : part ≤ 63) (hm : whole ≤ m) (hL : L.length = m) (hv : vs 18446744073709551616 (fun j => L.getD j 0) m = vs 18446744073709551616 (upL xs whole part) m)
    (hlt : val 18446744073709551616 xs * 2 ^ (64 * whole + part) < 18446744073709551616 ^ m) (hd : Digs 18446744073709551616 L) : val 18446744073709551616 L = val 18446744073709551616 xs * 2 ^ (64 * whole + part) := by
  have e0 : (2 : Int) ^ (64 * whole + part) = 18446744073709551616 ^ whole * 2 ^ part := by rw [Int.pow_add, Int.pow_mul]; congr 1
  rw [e0] at hlt ⊢
  have s := up_sum h whole hp m
  rw [up_limbs xs whole m hm, ← hv, vs_all _ L (by omega)] at s
  have hw := pow_pos' (B := 18446744073709551616) (by decide) whole
  have hpp := pow_pos' (B := 2) (by decide) part
  have hxn := val_nonneg (B := 18446744073709551616) (by decide) h
  have e1 : val 18446744073709551616 xs * (18446744073709551616 ^ whole * 2 ^ part) = 2 ^ part * (18446744073709551616 ^ whole * val 18446744073709551616 xs) := by rw [Int.mul_comm, Int.mul_comm (18446744073709551616 ^ whole), Int.mul_assoc]
  have hx : val 18446744073709551616 xs < 18446744073709551616 ^ (m - whole) := by
    by_cases hc : val 18446744073709551616 xs < 18446744073709551616 ^ (m - whole)
    · exact hc
    · have f1 : 18446744073709551616 ^ whole * 18446744073709551616 ^ (m - whole) ≤ 18446744073709551616 ^ whole * val 18446744073709551616 xs := Int.mul_le_mul_of_nonneg_left (by omega) (by omega)
      rw [← Int.pow_add, show whole + (m - whole) = m by omega] at f1
      have f2 : 1 * (18446744073709551616 ^ whole * val 18446744073709551616 xs) ≤ 2 ^ part * (18446744073709551616 ^ whole * val 18446744073709551616 xs) := Int.mul_le_mul_of_nonneg_right (by omega) (mul_nonneg' (by omega) hxn)
      omega
  have ht : val 18446744073709551616 (xs.take (m - whole)) = val 18446744073709551616 xs := by rw [← vs_val]; exact val_trunc' h hx
  rw [ht] at s
  rw [e1] at hlt ⊢
  have hn := val_nonneg (B := 18446744073709551616) (by decide) hd
  have hq := (shl_parts (limbZ_bd h ((m : Int) - whole - 1)) (show part ≤ 64 by omega)).2.2.1.1
  have hpm := pow_pos' (B := 18446744073709551616) (by decide) m
  generalize limbZ xs ((m : Int) - whole - 1) / 2 ^ (64 - part) = z at s hq
  by_cases hz : z = 0
  · subst hz; omega
  · have : 18446744073709551616 ^ m * 1 ≤ 18446744073709551616 ^ m * z := Int.mul_le_mul_of_nonneg_left (by omega) (by omega)
    omega

set_option maxHeartbeats 1600000 in
theorem movedUp_any (a : Option Addr) (la ca n m : Nat) (xs : List Int) (w : World) (h : Nums w a la ca xs) (hn : n ≤ 1000000) (hm : m ≤ 100000) (hwm : n / 64 ≤ m) (hlt : val 18446744073709551616 xs * 2 ^ n < 18446744073709551616 ^ m) :
    Calls Try.prog 95 #[.slice a la ca, .int .i64 (n : Int), .int .i64 (m : Int)] w fun e w' => ∃ L, e = .returned (.slice (some ⟨w.heap.size, 0, none⟩) m m) ∧ L.length = m ∧
      Blk w' w.heap.size L ∧ Digs 18446744073709551616 L ∧ val 18446744073709551616 L = val 18446744073709551616 xs * 2 ^ n ∧ Below w.heap.size w w' := by
  have hd := h.digs
  obtain ⟨whole, hwh⟩ : ∃ whole, whole = n / 64 := ⟨_, rfl⟩
  obtain ⟨part, hpa⟩ : ∃ part, part = n % 64 := ⟨_, rfl⟩
  have hp63 : part ≤ 63 := by omega
  have hnn : n = 64 * whole + part := by omega
  have hw1 : (n : Int) / 64 = (whole : Int) := by omega
  have hw2 : (n : Int) % 64 = (part : Int) := by omega
  have hwm' : whole ≤ m := by omega
  have HLT : Hid (val 18446744073709551616 xs * 2 ^ n < 18446744073709551616 ^ m ∧ n = 64 * whole + part) := ⟨hlt, hnn⟩
  clear hlt hnn hwh hpa hwm
  go_enter Try.func95, Try.ntmps95
  go_wp2_with (at_make; refine wpList_mk _ rfl _ _ 26 rfl Try.underlying26 .i64 .i64 _ _ m rfl rfl rfl rfl (by omega) ?_)
  intro w1 hb1 hbel hsz
  clear hw1 hw2
  go_wp2
  go_loopw [18] (fun iv wr => ∃ i : Nat, i ≤ m ∧ iv = .int .i64 i ∧ ∃ M, Blk wr w.heap.size M ∧ M.length = m ∧ Digs 18446744073709551616 M ∧ (∀ j, j < i → M.getD j 0 = upL xs whole part j) ∧ Below w.heap.size w wr) (fun iv _ => m - (intOf iv).toNat)
  case atStart => exact ⟨0, Nat.zero_le _, rfl, _, hb1, length_noughts _, fun x hx => by rw [(List.mem_replicate.1 hx).2]; omega, fun j hj => by omega, hbel⟩
  case round =>
    obtain ⟨i, hi, rfl, M, hbM, hMl, hMd, hMs, hb⟩ := hrel
    have HM : Hid (M.length = m ∧ Digs 18446744073709551616 M ∧ ∀ j, j < i → M.getD j 0 = upL xs whole part j) := ⟨hMl, hMd, hMs⟩
    clear hMl hMd hMs
    by_cases hlt : i < m
    · have hlti : (i : Int) < (m : Int) := by omega
      have hy := h.below hb
      have hu := upL_or hd whole hp63 i
      have b1 := limbZ_bd hd ((i : Int) - whole)
      have b2 := limbZ_bd hd ((i : Int) - whole - 1)
      obtain ⟨u, hu0⟩ : ∃ u, u = upL xs whole part i := ⟨_, rfl⟩
      rw [← hu0] at hu
      have HU : Hid (u = upL xs whole part i) := hu0
      have HO : Hid (bits .or .u64 (IntKind.u64.wrap (limbZ xs ((i : Int) - whole) * 2 ^ part)) (limbZ xs ((i : Int) - whole - 1) / 2 ^ (64 - part)) = u) := hu.1
      have hub := hu.2
      clear hu hu0
      have hcv : ∃ v, wr.cell? ⟨w.heap.size, i, none⟩ = some v := ⟨_, hbM.cell (by have := HM.out.1; omega)⟩
      obtain ⟨v0, hcv⟩ := hcv
      have hfz : wr.frozen? ⟨w.heap.size, i, none⟩ = false := hbM.frozen _
      have HB := (show Hid _ from hbM.set i u)
      have HG : Hid (Below w.heap.size w (wr.setCell ⟨w.heap.size, i, none⟩ (.int .u64 u))) := hb.setCell (Nat.le_refl _) _
      clear hbM hb
      have hwr1 : IntKind.i64.wrap ((i : Int) - whole) = (i : Int) - whole := by rw [IntKind.wrap_i64]; omega
      have hwr2 : IntKind.i64.wrap ((i : Int) - whole - 1) = (i : Int) - whole - 1 := by rw [IntKind.wrap_i64]; omega
      have hwr3 : IntKind.i64.wrap (64 - (part : Int)) = 64 - (part : Int) := by rw [IntKind.wrap_i64]; omega
      go_wp2_with fail
      go_region_with (go_at_call 100; refine (limb_any a la ca xs _ _ ?_).mono ?_; (exact ⟨hy.hlen, hy.hcap, hy.hmax, hy.cells, hy.word⟩); rintro e w' ⟨rfl, rfl⟩)
      all_goals
        rw [HO.out]
        go_wp2
        go_roundw
        case rel =>
          refine ⟨i + 1, by omega, by go_num, _, HB.out, by simpa using HM.out.1, HM.out.2.1.set _ hub, fun j hj => ?_, ⟨HG.out.os, HG.out.tape, HG.out.output, HG.out.size, HG.out.block⟩⟩
          by_cases hji : j = i
          · subst hji; rw [getD_set_self (by have := HM.out.1; omega)]; exact HU.out
          · rw [getD_set_ne (by omega)]; exact HM.out.2.2 j (by omega)
        case measure => simp [intOf]; omega
    · obtain rfl : i = m := by omega
      have hfin := up_end hd hp63 hwm' HM.out.1 (vs_congr (fun j hj => HM.out.2.2 j hj)) (by rw [← HLT.out.2]; exact HLT.out.1) HM.out.2.1
      rw [← HLT.out.2] at hfin
      have HF : Hid (val 18446744073709551616 M = val 18446744073709551616 xs * 2 ^ n) := hfin
      clear hfin
      go_wp2
      go_ret
      exact ⟨M, rfl, HM.out.1, hbM, HM.out.2.1, HF.out, hb⟩
end Go.Proofs.Ytchmlfjjgehbkaa

namespace Go.Proofs.Ytchmlfjjgehbkaa
open Go.RowKit

theorem or_shift' {h c : Int} {s : Nat} (h0 : 0 ≤ h) (h1 : h * 2 ^ s < 18446744073709551616) (c0 : 0 ≤ c) (c1 : c < 2 ^ s) (c2 : c < 18446744073709551616) : bits .or .u64 c (h * 2 ^ s) = c + h * 2 ^ s := by
  obtain ⟨n, rfl⟩ := Int.eq_ofNat_of_zero_le h0
  obtain ⟨m, rfl⟩ := Int.eq_ofNat_of_zero_le c0
  have e1 : (n : Int) * 2 ^ s = ((2 ^ s * n : Nat) : Int) := by simp [Int.mul_comm]
  have e2 : ((2 ^ s : Nat) : Int) = (2 : Int) ^ s := by simp
  rw [← e2] at c1
  rw [e1] at h1 ⊢
  have h3 := bits_or_u64_nat m (2 ^ s * n) (by omega) (by omega)
  rw [Nat.or_comm, ← Nat.two_pow_add_eq_or_of_lt (by omega : m < 2 ^ s) n] at h3
  exact h3.trans (by rw [Int.natCast_add, Int.add_comm])

/-- The limb that is laid at a place of what is moved down. -/
def downL (xs : List Int) (whole part : Nat) (i : Nat) : Int := limbZ xs ((i : Int) + whole) / 2 ^ part + IntKind.u64.wrap (limbZ xs ((i : Int) + whole + 1) * 2 ^ (64 - part))

theorem down_parts {g g' : Int} {p : Nat} (hg : 0 ≤ g ∧ g < 18446744073709551616) (hg' : 0 ≤ g' ∧ g' < 18446744073709551616) (hp : p ≤ 63) :
    bits .or .u64 (g / 2 ^ p) (IntKind.u64.wrap (g' * 2 ^ (64 - p))) = g / 2 ^ p + IntKind.u64.wrap (g' * 2 ^ (64 - p)) ∧ (0 ≤ g / 2 ^ p + IntKind.u64.wrap (g' * 2 ^ (64 - p)) ∧ g / 2 ^ p + IntKind.u64.wrap (g' * 2 ^ (64 - p)) < 18446744073709551616) ∧
    2 ^ p * (g / 2 ^ p + IntKind.u64.wrap (g' * 2 ^ (64 - p))) = g - g % 2 ^ p + 18446744073709551616 * (g' % 2 ^ p) := by
  have a := shl_parts hg' (show 64 - p ≤ 64 by omega)
  have hpr := pr_eq (show p ≤ 64 by omega)
  rw [show 64 - (64 - p) = p by omega] at a
  have h1 := pow_pos' (B := 2) (by decide) p
  have h2 := pow_pos' (B := 2) (by decide) (64 - p)
  have em := Int.emod_add_mul_ediv g (2 ^ p)
  have m0 := Int.emod_nonneg g' (show (2 : Int) ^ p ≠ 0 by omega)
  have m1 := Int.emod_lt_of_pos g' h1
  have q0 : 0 ≤ g / 2 ^ p := Int.ediv_nonneg hg.1 (by omega)
  have q1 : g / 2 ^ p < 2 ^ (64 - p) := Int.ediv_lt_of_lt_mul h1 (by rw [Int.mul_comm, hpr]; exact hg.2)
  have q2 : g / 2 ^ p ≤ g := Int.ediv_le_self _ hg.1
  rw [a.2.1]
  have e2 : (g' % 2 ^ p + 1) * 2 ^ (64 - p) ≤ 2 ^ p * 2 ^ (64 - p) := Int.mul_le_mul_of_nonneg_right (by omega) (by omega)
  rw [hpr, Int.add_mul] at e2
  have e3 : 0 ≤ g' % 2 ^ p * 2 ^ (64 - p) := mul_nonneg' m0 (by omega)
  refine ⟨or_shift' m0 (by omega) q0 q1 (by omega), ⟨by omega, by omega⟩, ?_⟩
  rw [Int.mul_add, Int.mul_left_comm, hpr, Int.mul_comm (g' % 2 ^ p)]
  omega

theorem down_sum {xs : List Int} (h : Digs 18446744073709551616 xs) (whole : Nat) {part : Nat} (hp : part ≤ 63) (i : Nat) :
    2 ^ part * vs 18446744073709551616 (downL xs whole part) i = vs 18446744073709551616 (fun j => limbZ xs ((j : Int) + whole)) i - limbZ xs ((0 : Int) + whole) % 2 ^ part + 18446744073709551616 ^ i * (limbZ xs ((i : Int) + whole) % 2 ^ part) := by
  induction i with
  | zero => simp [vs]; omega
  | succ i ih =>
    have a := (down_parts (limbZ_bd h ((i : Int) + whole)) (limbZ_bd h ((i : Int) + whole + 1)) hp).2.2
    have e1 : (((i + 1 : Nat) : Int) + whole) = (i : Int) + whole + 1 := by omega
    simp only [vs]
    rw [e1, Int.mul_add, ih, Int.pow_succ, Int.mul_assoc]
    have e2 : downL xs whole part i = limbZ xs ((i : Int) + whole) / 2 ^ part + IntKind.u64.wrap (limbZ xs ((i : Int) + whole + 1) * 2 ^ (64 - part)) := rfl
    rw [← e2] at a
    generalize (18446744073709551616 : Int) ^ i = P
    have e3 : 2 ^ part * (P * downL xs whole part i) = P * (limbZ xs ((i : Int) + whole) - limbZ xs ((i : Int) + whole) % 2 ^ part + 18446744073709551616 * (limbZ xs ((i : Int) + whole + 1) % 2 ^ part)) := by rw [Int.mul_left_comm, a]
    rw [e3, Int.mul_add, Int.mul_sub]
    omega

theorem down_end {xs L : List Int} (h : Digs 18446744073709551616 xs) {whole part m : Nat} (hp : part ≤ 63) (hm : m + whole = xs.length) (hL : L.length = m) (hv : vs 18446744073709551616 (fun j => L.getD j 0) m = vs 18446744073709551616 (downL xs whole part) m) :
    ∃ rem, val 18446744073709551616 xs = val 18446744073709551616 L * 2 ^ (64 * whole + part) + rem ∧ 0 ≤ rem ∧ rem < 2 ^ (64 * whole + part) := by
  have e0 : (2 : Int) ^ (64 * whole + part) = 18446744073709551616 ^ whole * 2 ^ part := by rw [Int.pow_add, Int.pow_mul]; congr 1
  have s := down_sum h whole hp m
  rw [← hv, vs_all _ L (by omega)] at s
  have z : limbZ xs ((m : Int) + whole) = 0 := by
    unfold limbZ; rw [if_neg (by omega)]; simp only [List.getD]; rw [List.getElem?_eq_none (by omega)]; rfl
  have e1 : vs 18446744073709551616 (fun j => limbZ xs ((j : Int) + whole)) m = val 18446744073709551616 (xs.drop whole) := by
    rw [← vs_all 18446744073709551616 (xs.drop whole) (n := m) (by simp; omega)]
    refine vs_congr (fun i _ => ?_)
    unfold limbZ; rw [if_neg (by omega)]
    simp [List.getD, show ((i : Int) + whole).toNat = whole + i by omega]
  rw [z, e1] at s
  have hc := val_cut 18446744073709551616 xs whole
  have t0 := val_nonneg (B := 18446744073709551616) (by decide) (h.take whole)
  have t1 := val_lt (B := 18446744073709551616) (by decide) (h.take whole)
  rw [List.length_take, Nat.min_eq_left (by omega)] at t1
  have hp2 := pow_pos' (B := 2) (by decide) part
  have hw := pow_pos' (B := 18446744073709551616) (by decide) whole
  have g0 := Int.emod_nonneg (limbZ xs ((0 : Int) + whole)) (show (2 : Int) ^ part ≠ 0 by omega)
  have g1 := Int.emod_lt_of_pos (limbZ xs ((0 : Int) + whole)) hp2
  generalize limbZ xs ((0 : Int) + whole) % 2 ^ part = g at s g0 g1
  have e2 : val 18446744073709551616 (xs.drop whole) = 2 ^ part * val 18446744073709551616 L + g := by simp at s; omega
  refine ⟨val 18446744073709551616 (xs.take whole) + 18446744073709551616 ^ whole * g, ?_, ?_, ?_⟩
  · rw [hc, e2, e0, Int.mul_add, ← Int.mul_assoc, Int.mul_comm (val 18446744073709551616 L)]
    omega
  · have := mul_nonneg' (Int.le_of_lt hw) g0; omega
  · rw [e0]
    have f : 18446744073709551616 ^ whole * (g + 1) ≤ 18446744073709551616 ^ whole * 2 ^ part := Int.mul_le_mul_of_nonneg_left (by omega) (by omega)
    rw [Int.mul_add] at f
    omega

set_option maxHeartbeats 1600000 in
theorem movedDown_any (a : Option Addr) (la ca n : Nat) (xs : List Int) (w : World) (h : Nums w a la ca xs) (hla : la ≤ 10000) (hn : n < 64 * la) :
    Calls Try.prog 97 #[.slice a la ca, .int .i64 (n : Int)] w fun e w' => ∃ a' k cap' ls rem, e = .returned (.slice a' k cap') ∧ Nums w' a' k cap' ls ∧ Digs 18446744073709551616 ls ∧ Top ls ∧ k ≤ la ∧
      (val 18446744073709551616 xs = val 18446744073709551616 ls * 2 ^ n + rem ∧ 0 ≤ rem ∧ rem < 2 ^ n) ∧ Fresh w w' a' k ∧ Below w.heap.size w w' := by
  have hd := h.digs
  obtain ⟨whole, hwh⟩ : ∃ whole, whole = n / 64 := ⟨_, rfl⟩
  obtain ⟨part, hpa⟩ : ∃ part, part = n % 64 := ⟨_, rfl⟩
  have hp63 : part ≤ 63 := by omega
  have hnn : n = 64 * whole + part := by omega
  have hw1 : (n : Int) / 64 = (whole : Int) := by omega
  have hw2 : (n : Int) % 64 = (part : Int) := by omega
  obtain ⟨m, hm⟩ : ∃ m, m = la - whole := ⟨_, rfl⟩
  have hml : m + whole = la := by omega
  have hm' : m ≤ 100000 := by omega
  have HXL : Hid (xs.length = la) := h.hlen
  have HLT : Hid (n = 64 * whole + part) := hnn
  have hmi : (la : Int) - (whole : Int) = (m : Int) := by omega
  clear hnn hwh hpa hm
  go_enter Try.func97, Try.ntmps97
  go_wp2_with (at_make; refine wpList_mk _ rfl _ _ 26 rfl Try.underlying26 .i64 .i64 _ _ m rfl rfl (by omega) (by omega) (by omega) ?_)
  intro w1 hb1 hbel hsz
  clear hw1 hw2
  go_wp2
  go_loopw [20] (fun iv wr => ∃ i : Nat, i ≤ m ∧ iv = .int .i64 i ∧ ∃ M, Blk wr w.heap.size M ∧ M.length = m ∧ Digs 18446744073709551616 M ∧ (∀ j, j < i → M.getD j 0 = downL xs whole part j) ∧ Below w.heap.size w wr) (fun iv _ => m - (intOf iv).toNat)
  case atStart => exact ⟨0, Nat.zero_le _, rfl, _, hb1, length_noughts _, fun x hx => by rw [(List.mem_replicate.1 hx).2]; omega, fun j hj => by omega, hbel⟩
  case round =>
    obtain ⟨i, hi, rfl, M, hbM, hMl, hMd, hMs, hb⟩ := hrel
    have HM : Hid (M.length = m ∧ Digs 18446744073709551616 M ∧ ∀ j, j < i → M.getD j 0 = downL xs whole part j) := ⟨hMl, hMd, hMs⟩
    clear hMl hMd hMs
    by_cases hlt : i < m
    · have hlti : (i : Int) < (m : Int) := by omega
      have hy := h.below hb
      have b1 := limbZ_bd hd ((i : Int) + whole)
      have b2 := limbZ_bd hd ((i : Int) + whole + 1)
      have hu0' := down_parts b1 b2 hp63
      have hu : bits .or .u64 (limbZ xs ((i : Int) + whole) / 2 ^ part) (IntKind.u64.wrap (limbZ xs ((i : Int) + whole + 1) * 2 ^ (64 - part))) = downL xs whole part i ∧ (0 ≤ downL xs whole part i ∧ downL xs whole part i < 18446744073709551616) := ⟨hu0'.1, hu0'.2.1⟩
      clear hu0'
      obtain ⟨u, hu0⟩ : ∃ u, u = downL xs whole part i := ⟨_, rfl⟩
      rw [← hu0] at hu
      have HU : Hid (u = downL xs whole part i) := hu0
      have HO : Hid (bits .or .u64 (limbZ xs ((i : Int) + whole) / 2 ^ part) (IntKind.u64.wrap (limbZ xs ((i : Int) + whole + 1) * 2 ^ (64 - part))) = u) := hu.1
      have hub := hu.2
      clear hu hu0
      have hcv : ∃ v, wr.cell? ⟨w.heap.size, i, none⟩ = some v := ⟨_, hbM.cell (by have := HM.out.1; omega)⟩
      obtain ⟨v0, hcv⟩ := hcv
      have hfz : wr.frozen? ⟨w.heap.size, i, none⟩ = false := hbM.frozen _
      have HB := (show Hid _ from hbM.set i u)
      have HG : Hid (Below w.heap.size w (wr.setCell ⟨w.heap.size, i, none⟩ (.int .u64 u))) := hb.setCell (Nat.le_refl _) _
      clear hbM hb
      have hwr1 : IntKind.i64.wrap ((i : Int) + whole) = (i : Int) + whole := by rw [IntKind.wrap_i64]; omega
      have hwr2 : IntKind.i64.wrap ((i : Int) + whole + 1) = (i : Int) + whole + 1 := by rw [IntKind.wrap_i64]; omega
      have hwr3 : IntKind.i64.wrap (64 - (part : Int)) = 64 - (part : Int) := by rw [IntKind.wrap_i64]; omega
      go_wp2_with fail
      go_region_with (go_at_call 100; refine (limb_any a la ca xs _ _ ?_).mono ?_; (exact ⟨hy.hlen, hy.hcap, hy.hmax, hy.cells, hy.word⟩); rintro e w' ⟨rfl, rfl⟩)
      all_goals
        rw [HO.out]
        go_wp2
        go_roundw
        case rel =>
          refine ⟨i + 1, by omega, by go_num, _, HB.out, by simpa using HM.out.1, HM.out.2.1.set _ hub, fun j hj => ?_, ⟨HG.out.os, HG.out.tape, HG.out.output, HG.out.size, HG.out.block⟩⟩
          by_cases hji : j = i
          · subst hji; rw [getD_set_self (by have := HM.out.1; omega)]; exact HU.out
          · rw [getD_set_ne (by omega)]; exact HM.out.2.2 j (by omega)
        case measure => simp [intOf]; omega
    · obtain rfl : i = m := by omega
      obtain ⟨rem, hr1, hr2, hr3⟩ := down_end (L := M) hd hp63 (by have := HXL.out; omega) HM.out.1 (vs_congr (fun j hj => HM.out.2.2 j hj))
      rw [← HLT.out] at hr1 hr3
      have HF : Hid (val 18446744073709551616 xs = val 18446744073709551616 M * 2 ^ n + rem ∧ 0 ≤ rem ∧ rem < 2 ^ n) := ⟨hr1, hr2, hr3⟩
      clear hr1 hr2 hr3
      have hnum := hbM.nums HM.out.2.1 HM.out.1 (by omega)
      go_wp2_with fail
      refine (trimmed_any _ _ _ _ _ hnum).mono ?_
      rintro e w' ⟨a', k, cap', rfl, htr, hk, rfl⟩
      have hkl : k ≤ i := by have := htr.le; have := hnum.hlen; omega
      have hn4 : Nums w' a' k cap' (M.take k) := by
        rcases hk with ⟨rfl, rfl, rfl⟩ | ⟨_, rfl, rfl⟩
        · simpa using Nums.nil w'
        · exact hnum.take hkl
      have hfr : Fresh w w' a' k := fun hp => by
        rcases hk with ⟨rfl, _, _⟩ | ⟨_, rfl, _⟩
        · exact absurd hp (Nat.lt_irrefl _)
        · exact ⟨_, M, rfl, Nat.le_refl _, hbM, by have := HM.out.1; omega⟩
      have HT : Hid (Trim M k) := htr
      clear htr hk
      go_wp2_with fail
      go_ret
      exact ⟨_, _, _, M.take k, rem, rfl, hn4, HM.out.2.1.take k, HT.out.Top, by omega, by rw [HT.out.val]; exact HF.out, hfr, hb⟩
end Go.Proofs.Ytchmlfjjgehbkaa

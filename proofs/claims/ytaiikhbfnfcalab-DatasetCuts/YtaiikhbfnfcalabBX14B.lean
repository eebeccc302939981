/-
  How many bits a word has: bytes side by side.
  The program's sets: Has.
  The program's sets: OnesCount64, Count.
  The program's sets: Full.
-/
import Derived.Test.YtaiikhbfnfcalabB14A
import Derived.Test.YtaiikhbfnfcalabBX14A
namespace Go.Proofs.Ytaiikhbfnfcalab
open Go.RowKit

/-- A function of bytes, at k bytes side by side. -/
def byt14 (f : Nat → Nat) : Nat → Nat → Nat
  | 0, _ => 0
  | k + 1, x => 256 * byt14 f k (x / 256) + f (x % 256)
/-- One byte k times. -/
def rep14 (c : Nat) : Nat → Nat
  | 0 => 0
  | k + 1 => 256 * rep14 c k + c
theorem and_parts (y m b c : Nat) (hb : b < 256) (hc : c < 256) : (256 * y + b) &&& (256 * m + c) = 256 * (y &&& m) + (b &&& c) := by
  have hbc : b &&& c < 256 := Nat.lt_of_le_of_lt Nat.and_le_left hb
  have e1 := Nat.and_div_two_pow (n := 8) (a := 256 * y + b) (b := 256 * m + c)
  have e2 := Nat.and_mod_two_pow (n := 8) (a := 256 * y + b) (b := 256 * m + c)
  have p : (2 : Nat) ^ 8 = 256 := by decide
  rw [p] at e1 e2
  rw [show (256 * y + b) / 256 = y by omega, show (256 * m + c) / 256 = m by omega] at e1
  rw [show (256 * y + b) % 256 = b by omega, show (256 * m + c) % 256 = c by omega] at e2
  omega
theorem byt14_lt (f : Nat → Nat) (hf : ∀ b, f b < 256) : ∀ k x, byt14 f k x < 256 ^ k
  | 0, x => by simp [byt14]
  | k + 1, x => by
    have h1 := byt14_lt f hf k (x / 256)
    have h2 := hf (x % 256)
    simp only [byt14]
    rw [Nat.pow_succ]
    omega
theorem byt14_div (f : Nat → Nat) (hf : ∀ b, f b < 256) (k x : Nat) : byt14 f (k + 1) x / 256 = byt14 f k (x / 256) := by
  have := hf (x % 256)
  simp only [byt14]
  omega
theorem byt14_mod (f : Nat → Nat) (hf : ∀ b, f b < 256) (k x : Nat) : byt14 f (k + 1) x % 256 = f (x % 256) := by
  have := hf (x % 256)
  simp only [byt14]
  omega
/-- Pairs, then fours, then bytes. -/
def fA14 (b : Nat) : Nat := (b / 2 &&& 85) + (b &&& 85)
def fB14 (b : Nat) : Nat := (b / 4 &&& 51) + (b &&& 51)
def fC14 (b : Nat) : Nat := (b / 16 + b) &&& 15
def pop14 (b : Nat) : Nat := fC14 (fB14 (fA14 (b % 256)))
theorem fA14_ok : ∀ b, b < 256 → fA14 b < 256 := by decide +kernel
theorem fB14_ok : ∀ b, b < 256 → fB14 b < 256 := by decide +kernel
theorem fBA14_ok : ∀ b, b < 256 → fB14 (fA14 b) % 16 ≤ 4 ∧ fB14 (fA14 b) / 16 ≤ 4 := by decide +kernel
theorem pop14_ok : ∀ b, b < 256 → pop14 b ≤ 8 ∧ (numsOfS 8 (fun j => b.testBit j)).length = pop14 b := by decide +kernel
theorem half_bits : ∀ b, b < 256 → ∀ t, t < 2 → (b / 2 + 128 * t) &&& 85 = b / 2 &&& 85 := by decide +kernel
theorem quarter_bits : ∀ b, b < 256 → ∀ t, t < 4 → (b / 4 + 64 * t) &&& 51 = b / 4 &&& 51 := by decide +kernel
theorem low_bits14 (u t : Nat) : (u + 16 * t) &&& 15 = u &&& 15 := by
  have e1 := Nat.and_two_pow_sub_one_eq_mod (u + 16 * t) 4
  have e2 := Nat.and_two_pow_sub_one_eq_mod u 4
  have p : (2 : Nat) ^ 4 - 1 = 15 := by decide
  have p2 : (2 : Nat) ^ 4 = 16 := by decide
  rw [p, p2] at e1 e2
  omega
theorem stepA14 : ∀ k x, x < 256 ^ k → (x / 2 &&& rep14 85 k) + (x &&& rep14 85 k) = byt14 fA14 k x
  | 0, x, _ => by simp [rep14, byt14]
  | k + 1, x, h => by
    rw [Nat.pow_succ] at h
    obtain ⟨y, hy⟩ : ∃ y, y = x / 256 := ⟨_, rfl⟩
    obtain ⟨b, hb⟩ : ∃ b, b = x % 256 := ⟨_, rfl⟩
    have hb2 : b < 256 := by omega
    have ih := stepA14 k y (by omega)
    have ex : x = 256 * y + b := by omega
    have eh : x / 2 = 256 * (y / 2) + (b / 2 + 128 * (y % 2)) := by omega
    have hs := half_bits b hb2 (y % 2) (by omega)
    simp only [rep14, byt14]
    rw [← hy, ← hb, eh, and_parts _ _ _ _ (by omega) (by decide), hs]
    rw [ex, and_parts _ _ _ _ hb2 (by decide)]
    rw [← ih, show fA14 b = (b / 2 &&& 85) + (b &&& 85) from rfl]
    omega
theorem stepB14 : ∀ k x, x < 256 ^ k → (x / 4 &&& rep14 51 k) + (x &&& rep14 51 k) = byt14 fB14 k x
  | 0, x, _ => by simp [rep14, byt14]
  | k + 1, x, h => by
    rw [Nat.pow_succ] at h
    obtain ⟨y, hy⟩ : ∃ y, y = x / 256 := ⟨_, rfl⟩
    obtain ⟨b, hb⟩ : ∃ b, b = x % 256 := ⟨_, rfl⟩
    have hb2 : b < 256 := by omega
    have ih := stepB14 k y (by omega)
    have ex : x = 256 * y + b := by omega
    have eh : x / 4 = 256 * (y / 4) + (b / 4 + 64 * (y % 4)) := by omega
    have hs := quarter_bits b hb2 (y % 4) (by omega)
    simp only [rep14, byt14]
    rw [← hy, ← hb, eh, and_parts _ _ _ _ (by omega) (by decide), hs]
    rw [ex, and_parts _ _ _ _ hb2 (by decide)]
    rw [← ih, show fB14 b = (b / 4 &&& 51) + (b &&& 51) from rfl]
    omega
theorem stepC14 (f : Nat → Nat) (hf : ∀ b, f b % 16 ≤ 4 ∧ f b / 16 ≤ 4) : ∀ k x, (byt14 f k x / 16 + byt14 f k x) &&& rep14 15 k = byt14 (fun b => fC14 (f b)) k x
  | 0, x => by simp [rep14, byt14]
  | k + 1, x => by
    have ih := stepC14 f hf k (x / 256)
    have h1 := hf (x % 256)
    have h2 : byt14 f k (x / 256) % 16 ≤ 4 := by
      cases k with
      | zero => simp [byt14]
      | succ k =>
        have := hf (x / 256 % 256)
        simp only [byt14]
        omega
    obtain ⟨Y, hY⟩ : ∃ Y, Y = byt14 f k (x / 256) := ⟨_, rfl⟩
    obtain ⟨b, hb⟩ : ∃ b, b = f (x % 256) := ⟨_, rfl⟩
    have hs := low_bits14 (b / 16 + b) (Y % 16)
    simp only [rep14, byt14]
    rw [← hY] at ih h2
    rw [← hb] at h1
    rw [← hY, ← hb, ← ih, show (256 * Y + b) / 16 + (256 * Y + b) = 256 * (Y / 16 + Y) + (b / 16 + b + 16 * (Y % 16)) by omega, and_parts _ _ _ _ (by omega) (by decide), hs]
    rfl
theorem byt14_comp (f g : Nat → Nat) (hg : ∀ b, g b < 256) : ∀ k x, byt14 f k (byt14 g k x) = byt14 (fun b => f (g b)) k x
  | 0, x => by simp [byt14]
  | k + 1, x => by
    have ih := byt14_comp f g hg k (x / 256)
    have h1 := byt14_div g hg k x
    have h2 := byt14_mod g hg k x
    show 256 * byt14 f k (byt14 g (k + 1) x / 256) + f (byt14 g (k + 1) x % 256) = 256 * byt14 (fun b => f (g b)) k (x / 256) + f (g (x % 256))
    rw [h1, h2, ih]
theorem byt14_congr {f g : Nat → Nat} (h : ∀ b, b < 256 → f b = g b) : ∀ k x, byt14 f k x = byt14 g k x
  | 0, x => by simp [byt14]
  | k + 1, x => by
    simp only [byt14]
    rw [byt14_congr h k, h _ (Nat.mod_lt _ (by decide))]
/-- The eight sums of bits, side by side. -/
theorem pops14 {x x1 x2 x3 : Nat} (hx : x < 18446744073709551616) (h1 : x1 = (x / 2 &&& 6148914691236517205) + (x &&& 6148914691236517205)) (h2 : x2 = (x1 / 4 &&& 3689348814741910323) + (x1 &&& 3689348814741910323)) (h3 : x3 = (x2 / 16 + x2) &&& 1085102592571150095) :
    x1 < 18446744073709551616 ∧ x2 < 18446744073709551616 ∧ x2 / 16 + x2 < 18446744073709551616 ∧ x3 = byt14 pop14 8 x := by
  have p8 : (256 : Nat) ^ 8 = 18446744073709551616 := by decide
  have m0 : rep14 85 8 = 6148914691236517205 := by decide
  have m1 : rep14 51 8 = 3689348814741910323 := by decide
  have m2 : rep14 15 8 = 1085102592571150095 := by decide
  let A : Nat → Nat := fun b => fA14 (b % 256)
  have hA : ∀ b, A b < 256 := fun b => fA14_ok _ (Nat.mod_lt _ (by decide))
  let B : Nat → Nat := fun b => fB14 (A b)
  have hB : ∀ b, B b < 256 := fun b => fB14_ok _ (hA b)
  have hB2 : ∀ b, B b % 16 ≤ 4 ∧ B b / 16 ≤ 4 := fun b => fBA14_ok _ (Nat.mod_lt _ (by decide))
  have e1 : x1 = byt14 A 8 x := by
    rw [h1, ← m0, stepA14 8 x (by rw [p8]; exact hx)]
    exact byt14_congr (fun b hb => by show fA14 b = fA14 (b % 256); rw [Nat.mod_eq_of_lt hb]) 8 x
  have l1 := byt14_lt A hA 8 x
  rw [p8, ← e1] at l1
  have e2 : x2 = byt14 B 8 x := by
    rw [h2, ← m1, stepB14 8 x1 (by rw [p8]; exact l1), e1, byt14_comp _ _ hA]
  have l2 := byt14_lt B hB 8 x
  rw [p8, ← e2] at l2
  refine ⟨l1, l2, ?_, ?_⟩
  · have h7 : x2 / 72057594037927936 ≤ 68 := by
      have t : ∀ k y, byt14 B (k + 1) y < 69 * 256 ^ k := by
        intro k
        induction k with
        | zero => intro y; have := hB2 (y % 256); simp only [byt14]; omega
        | succ k ih =>
          intro y
          have q1 := ih (y / 256)
          have q2 := hB (y % 256)
          show 256 * byt14 B (k + 1) (y / 256) + B (y % 256) < _
          rw [Nat.pow_succ]
          omega
      have := t 7 x
      rw [← e2, show (256 : Nat) ^ 7 = 72057594037927936 by decide] at this
      omega
    omega
  · rw [h3, ← m2, e2]
    exact stepC14 B hB2 8 x
theorem pop14_le (b : Nat) : pop14 b ≤ 8 := by
  have := (pop14_ok (b % 256) (Nat.mod_lt _ (by decide))).1
  unfold pop14 at this ⊢
  rwa [Nat.mod_mod] at this
theorem byte_bit (x j : Nat) (hj : j < 8) : (x % 256).testBit j = x.testBit j := by
  rw [show (256 : Nat) = 2 ^ 8 by decide, Nat.testBit_mod_two_pow]
  simp [hj]
theorem next_bit (x j : Nat) : (x / 256).testBit j = x.testBit (8 + j) := by
  rw [show (256 : Nat) = 2 ^ 8 by decide, Nat.testBit_div_two_pow, Nat.add_comm]
theorem nums_byte (x n : Nat) : (numsOfS (8 + n) (fun j => x.testBit j)).length = pop14 (x % 256) + (numsOfS n (fun j => (x / 256).testBit j)).length := by
  rw [numsOfS_more, ← (pop14_ok (x % 256) (Nat.mod_lt _ (by decide))).2]
  congr 2
  · exact numsOfS_congr (fun j hj => (byte_bit x j hj).symm)
  · exact numsOfS_congr (fun j _ => (next_bit x j).symm)
/-- The sum of the bytes. -/
def sum14b : Nat → Nat → Nat
  | 0, _ => 0
  | k + 1, x => pop14 (x % 256) + sum14b k (x / 256)
theorem nums_bytes : ∀ k x, (numsOfS (8 * k) (fun j => x.testBit j)).length = sum14b k x
  | 0, _ => rfl
  | k + 1, x => by
    rw [show 8 * (k + 1) = 8 + 8 * k by omega, nums_byte, nums_bytes k]
    rfl
/-- The sum of eight bytes by three additions. -/
theorem eight14 (a0 a1 a2 a3 a4 a5 a6 a7 t s u v : Nat) (q0 : a0 ≤ 8) (q1 : a1 ≤ 8) (q2 : a2 ≤ 8) (q3 : a3 ≤ 8) (q4 : a4 ≤ 8) (q5 : a5 ≤ 8) (q6 : a6 ≤ 8) (q7 : a7 ≤ 8)
    (ht : t = 256 * (256 * (256 * (256 * (256 * (256 * (256 * (256 * 0 + a7) + a6) + a5) + a4) + a3) + a2) + a1) + a0) (hs : s = t + t / 256) (hu : u = s + s / 65536) (hv : v = u + u / 4294967296) :
    s < 1152921504606846976 ∧ u < 1152921504606846976 ∧ v < 1152921504606846976 ∧ v % 128 = a0 + (a1 + (a2 + (a3 + (a4 + (a5 + (a6 + (a7 + 0))))))) := by
  have e1 : t / 256 = 256 * (256 * (256 * (256 * (256 * (256 * a7 + a6) + a5) + a4) + a3) + a2) + a1 := by omega
  have es : s = (a0 + a1) + 256 * (a1 + a2) + 65536 * ((a2 + a3) + 256 * (a3 + a4) + 65536 * ((a4 + a5) + 256 * (a5 + a6) + 65536 * ((a6 + a7) + 256 * a7))) := by omega
  clear e1 hs ht
  have e2 : s / 65536 = (a2 + a3) + 256 * (a3 + a4) + 65536 * ((a4 + a5) + 256 * (a5 + a6) + 65536 * ((a6 + a7) + 256 * a7)) := by omega
  obtain ⟨r, er⟩ : ∃ r, r = (a4 + a5 + a6 + a7) + 256 * (a5 + a6 + a7) + 65536 * (a6 + a7 + 256 * a7) := ⟨_, rfl⟩
  have eu : u = (a0 + a1 + a2 + a3) + 256 * (a1 + a2 + a3 + a4) + 65536 * (a2 + a3 + a4 + a5 + 256 * (a3 + a4 + a5 + a6)) + 4294967296 * r := by omega
  have s1 : s < 1152921504606846976 := by omega
  clear e2 es hu
  have e3 : u / 4294967296 = r := by omega
  have ev : v = (a0 + a1 + a2 + a3 + a4 + a5 + a6 + a7) + 128 * (2 * (a1 + a2 + a3 + a4 + a5 + a6 + a7) + 512 * (a2 + a3 + a4 + a5 + a6 + a7 + 256 * (a3 + a4 + a5 + a6 + a7)) + 33554432 * r) := by omega
  refine ⟨s1, by omega, by omega, by omega⟩
theorem sum14 (x t s u v : Nat) (ht : t = byt14 pop14 8 x) (hs : s = t + t / 256) (hu : u = s + s / 65536) (hv : v = u + u / 4294967296) :
    s < 1152921504606846976 ∧ u < 1152921504606846976 ∧ v < 1152921504606846976 ∧ v % 128 = (numsOfS 64 (fun j => x.testBit j)).length := by
  have hn : (numsOfS 64 (fun j => x.testBit j)).length = sum14b 8 x := nums_bytes 8 x
  rw [hn]
  exact eight14 _ _ _ _ _ _ _ _ t s u v (pop14_le _) (pop14_le _) (pop14_le _) (pop14_le _) (pop14_le _) (pop14_le _) (pop14_le _) (pop14_le _) ht hs hu hv
end Go.Proofs.Ytaiikhbfnfcalab

namespace Go.Proofs.Ytaiikhbfnfcalab
open Go.RowKit

theorem and_one14 {e : Nat} (h : e < 18446744073709551616) : bits .and .u64 (e : Int) 1 = ((e % 2 : Nat) : Int) := by
  have h1 := bits_and_u64_nat e 1 h (by omega)
  rw [Nat.and_one_is_mod] at h1
  exact h1
end Go.Proofs.Ytaiikhbfnfcalab

namespace Go.Proofs.Ytaiikhbfnfcalab
open Go.RowKit

theorem and_i64 (a : Nat) (ha : a < 9223372036854775808) : bits .and .i64 (a : Int) 127 = ((a % 128 : Nat) : Int) := by
  have h := (bits_nat .i64 63 (by decide) (fun n h0 h1 => by rw [IntKind.wrap_i64]; omega) a 127 (by omega) (by decide)).1
  have e := Nat.and_two_pow_sub_one_eq_mod a 7
  have p : (2 : Nat) ^ 7 - 1 = 127 := by decide
  have p2 : (2 : Nat) ^ 7 = 128 := by decide
  rw [p, p2] at e
  rw [e] at h
  exact h
set_option maxRecDepth 20000 in
set_option maxHeartbeats 3200000 in
theorem ones14_any (x : Nat) (hx : x < 18446744073709551616) (w : World) : Calls Try.prog 15 #[.int .u64 (x : Int)] w fun e w' => e = .returned (.int .i64 ((numsOfS 64 (fun j => x.testBit j)).length : Int)) ∧ w = w' := by
  obtain ⟨y1, hy1⟩ : ∃ y, y = x / 2 := ⟨_, rfl⟩
  obtain ⟨p1, hp1⟩ : ∃ p, p = y1 &&& 6148914691236517205 := ⟨_, rfl⟩
  obtain ⟨p2, hp2⟩ : ∃ p, p = x &&& 6148914691236517205 := ⟨_, rfl⟩
  obtain ⟨x1, hx1⟩ : ∃ z, z = p1 + p2 := ⟨_, rfl⟩
  obtain ⟨y2, hy2⟩ : ∃ y, y = x1 / 4 := ⟨_, rfl⟩
  obtain ⟨p3, hp3⟩ : ∃ p, p = y2 &&& 3689348814741910323 := ⟨_, rfl⟩
  obtain ⟨p4, hp4⟩ : ∃ p, p = x1 &&& 3689348814741910323 := ⟨_, rfl⟩
  obtain ⟨x2, hx2⟩ : ∃ z, z = p3 + p4 := ⟨_, rfl⟩
  obtain ⟨y3, hy3⟩ : ∃ y, y = x2 / 16 := ⟨_, rfl⟩
  obtain ⟨z3, hz3⟩ : ∃ z, z = y3 + x2 := ⟨_, rfl⟩
  obtain ⟨t, ht⟩ : ∃ t, t = z3 &&& 1085102592571150095 := ⟨_, rfl⟩
  obtain ⟨y4, hy4⟩ : ∃ y, y = t / 256 := ⟨_, rfl⟩
  obtain ⟨s, hs⟩ : ∃ s, s = t + y4 := ⟨_, rfl⟩
  obtain ⟨y5, hy5⟩ : ∃ y, y = s / 65536 := ⟨_, rfl⟩
  obtain ⟨u, hu⟩ : ∃ z, z = s + y5 := ⟨_, rfl⟩
  obtain ⟨y6, hy6⟩ : ∃ y, y = u / 4294967296 := ⟨_, rfl⟩
  obtain ⟨v, hv⟩ : ∃ z, z = u + y6 := ⟨_, rfl⟩
  obtain ⟨l1, l2, l3, et⟩ := pops14 (x := x) (x1 := x1) (x2 := x2) (x3 := t) hx (by rw [hx1, hp1, hp2, hy1]) (by rw [hx2, hp3, hp4, hy2]) (by rw [ht, hz3, hy3])
  obtain ⟨g1, g2, g3, ev⟩ := sum14 x t s u v et (by rw [hs, hy4]) (by rw [hu, hy5]) (by rw [hv, hy6])
  have hy1l : y1 < 18446744073709551616 := by omega
  have hy2l : y2 < 18446744073709551616 := by omega
  have hz3l : z3 < 18446744073709551616 := by omega
  have D1 : (x : Int) / 2 = (y1 : Int) := by omega
  have B1 : bits .and .u64 (y1 : Int) 6148914691236517205 = (p1 : Int) := by rw [hp1]; exact bits_and_u64_nat y1 6148914691236517205 hy1l (by decide)
  have B2 : bits .and .u64 (x : Int) 6148914691236517205 = (p2 : Int) := by rw [hp2]; exact bits_and_u64_nat x 6148914691236517205 hx (by decide)
  have W1 : IntKind.u64.wrap ((p1 : Int) + (p2 : Int)) = (x1 : Int) := by rw [u64_lit _ (by omega) (by omega)]; omega
  have D2 : (x1 : Int) / 4 = (y2 : Int) := by omega
  have B3 : bits .and .u64 (y2 : Int) 3689348814741910323 = (p3 : Int) := by rw [hp3]; exact bits_and_u64_nat y2 3689348814741910323 hy2l (by decide)
  have B4 : bits .and .u64 (x1 : Int) 3689348814741910323 = (p4 : Int) := by rw [hp4]; exact bits_and_u64_nat x1 3689348814741910323 l1 (by decide)
  have W2 : IntKind.u64.wrap ((p3 : Int) + (p4 : Int)) = (x2 : Int) := by rw [u64_lit _ (by omega) (by omega)]; omega
  have D3 : (x2 : Int) / 16 = (y3 : Int) := by omega
  have W3 : IntKind.u64.wrap ((y3 : Int) + (x2 : Int)) = (z3 : Int) := by rw [u64_lit _ (by omega) (by omega)]; omega
  have B5 : bits .and .u64 (z3 : Int) 1085102592571150095 = (t : Int) := by rw [ht]; exact bits_and_u64_nat z3 1085102592571150095 hz3l (by decide)
  have D4 : (t : Int) / 256 = (y4 : Int) := by omega
  have W4 : IntKind.u64.wrap ((t : Int) + (y4 : Int)) = (s : Int) := by rw [u64_lit _ (by omega) (by omega)]; omega
  have D5 : (s : Int) / 65536 = (y5 : Int) := by omega
  have W5 : IntKind.u64.wrap ((s : Int) + (y5 : Int)) = (u : Int) := by rw [u64_lit _ (by omega) (by omega)]; omega
  have D6 : (u : Int) / 4294967296 = (y6 : Int) := by omega
  have W6 : IntKind.u64.wrap ((u : Int) + (y6 : Int)) = (v : Int) := by rw [u64_lit _ (by omega) (by omega)]; omega
  have W7 : IntKind.i64.wrap (v : Int) = (v : Int) := by rw [IntKind.wrap_i64]; omega
  have B6 := and_i64 v (by omega)
  rw [ev] at B6
  obtain ⟨n, hn⟩ : ∃ n, n = (numsOfS 64 (fun j => x.testBit j)).length := ⟨_, rfl⟩
  rw [← hn] at B6
  rw [← hn]
  clear hy1 hp1 hp2 hx1 hy2 hp3 hp4 hx2 hy3 hz3 ht hy4 hs hy5 hu hy6 hv et ev hn
  go_enter Try.func15, Try.ntmps15
  go_wp2
  go_ret
  exact ⟨by rfl, by trivial⟩
/-- The numbers of a set, word by word. -/
theorem nums_word {ws : List Int} (q : Nat) : (numsOfS (64 * (q + 1)) (wbit ws)).length = (numsOfS (64 * q) (wbit ws)).length + (numsOfS 64 (fun j => ((ws.getD q 0).toNat).testBit j)).length := by
  rw [show 64 * (q + 1) = 64 * q + 64 by omega, numsOfS_more]
  congr 2
  exact numsOfS_congr (fun j hj => wbit_at ws q j hj)
theorem RightS.all {n : Nat} {ws : List Int} (h : RightS (n : Int) ws) : numsOfS (64 * ws.length) (wbit ws) = numsOfS n (wbit ws) :=
  numsOfS_skip (by have := h.len; omega) (fun i h1 h2 => h.top i (by omega) h2)
set_option maxRecDepth 20000 in
set_option maxHeartbeats 3200000 in
theorem x14count_any (N : Int) (a : Option Addr) (l c : Nat) (ws : List Int) (w : World) (hN : -9223372036854775808 ≤ N ∧ N < 9223372036854775808) (h : Nums w a l c ws) :
    Calls Try.prog 7 #[.agg #[.int .i64 N, .slice a l c]] w fun e w' => ∃ ns : List Nat, e = .returned (.int .i64 (ns.length : Int)) ∧ ResList N ws ns ∧ Below w.heap.size w w' := by
  have hb := balloc w (.cells #[.int .i64 N, .slice a l c] 30)
  obtain ⟨V, hVe⟩ : ∃ V, V = w.alloc (.cells #[.int .i64 N, .slice a l c] 30) := ⟨_, rfl⟩
  have HVe : Hid (V = w.alloc (.cells #[.int .i64 N, .slice a l c] 30)) := hVe
  obtain ⟨G, hG⟩ : ∃ G, G = w.heap.size := ⟨_, rfl⟩
  have HG : Hid (G = w.heap.size) := hG
  have x0 : V.cell? ⟨G, 0, none⟩ = some (.int .i64 N) := by rw [hVe, hG]; simp
  have x1 : V.cell? ⟨G, 1, none⟩ = some (.slice a l c) := by rw [hVe, hG]; simp
  rw [← hVe] at hb
  have HB : Hid (Below w.heap.size w V) := hb
  have HN : Hid (Nums V a l c ws) := h.below hb
  have HC := (show Hid _ from x14right_any N a l c ws V hN (h.below hb))
  have hcap := h.hcap
  have hmax := h.hmax
  unfold maxLen at hmax
  clear hb h hVe hG
  go_enter Try.func7, Try.ntmps7
  go_upto_region 1 with fail
  rw [← HVe.out, ← HG.out]
  clear HVe HG
  go_wp2_with fail
  refine Calls.mono HC.out ?_
  rintro e w1 ⟨b, rfl, hbr, hb1⟩
  replace x0 := bkeep hb1 x0 rfl
  replace x1 := bkeep hb1 x1 rfl
  have HB1 : Hid (Below w.heap.size w w1 ∧ Nums w1 a l c ws) := ⟨bthen HB.out hb1, HN.out.below hb1⟩
  have HR : Hid (b = true ↔ RightS N ws) := hbr
  clear HC hbr hb1 HN HB
  dsimp only
  cases b with
  | false =>
    have HF : Hid (ResList N ws []) := .inr ⟨fun e => (by have := HR.out.2 e; cases this), rfl⟩
    clear HR
    go_wp2
    go_ret
    exact ⟨[], rfl, HF.out, HB1.out.1⟩
  | true =>
  have hRt : RightS N ws := HR.out.1 rfl
  obtain ⟨M, rfl⟩ : ∃ M : Nat, N = (M : Int) := ⟨N.toNat, by have := hRt.lo; omega⟩
  have HLn : Hid (ws.length = l) := HB1.out.2.hlen
  have hl2 : l ≤ 1024 := by have := hRt.len; have := hRt.hi; have := HLn.out; omega
  have HA : Hid (numsOfS (64 * l) (wbit ws) = numsOfS M (wbit ws)) := by show _ = _; rw [← HLn.out]; exact hRt.all
  have HRt : Hid (RightS (M : Int) ws) := hRt
  clear hRt HR
  go_wp2
  go_loopw [3, 12] (fun v3 v12 wr => w1 = wr ∧ ∃ k : Nat, k ≤ l ∧ v12 = .int .i64 (k : Int) ∧ ∃ n : Nat, v3 = .int .i64 (n : Int) ∧ n ≤ 64 * k ∧ Hid (n = (numsOfS (64 * k) (wbit ws)).length)) (fun _ v12 _ => l - (intOf v12).toNat)
  case atStart => exact ⟨by trivial, 0, Nat.zero_le _, rfl, 0, rfl, Nat.le_refl _, rfl⟩
  case round =>
    obtain ⟨rfl, k, hk, rfl, n, rfl, hn64, HNn⟩ := hrel
    by_cases hlt : k < l
    · have hlti : (k : Int) < (l : Int) := by omega
      have hk0 : (0 : Int) ≤ (k : Int) := by omega
      obtain ⟨b, off, m, rfl, hc, hm, hml⟩ := word_at HB1.out.2 hlt
      have HC2 : Hid (Calls Try.prog 15 #[.int .u64 (m : Int)] w1 fun e w' => e = .returned (.int .i64 ((numsOfS 64 (fun j => m.testBit j)).length : Int)) ∧ w1 = w') := ones14_any m hml w1
      have hle := numsOfS_len 64 (fun j => m.testBit j)
      obtain ⟨t, ht⟩ : ∃ t, t = (numsOfS 64 (fun j => m.testBit j)).length := ⟨_, rfl⟩
      rw [← ht] at HC2 hle
      have HT : Hid (n + t = (numsOfS (64 * (k + 1)) (wbit ws)).length ∧ k < l) := ⟨by rw [nums_word, ← HNn.out, ← hm, ht], hlt⟩
      have hnt : (n : Int) + (t : Int) = ((n + t : Nat) : Int) := by omega
      obtain ⟨s, hs⟩ : ∃ s, s = n + t := ⟨_, rfl⟩
      have hs2 : s ≤ 64 * (k + 1) := by omega
      rw [← hs] at HT hnt
      clear hm hml ht hs hlt
      go_wp2_with fail
      refine Calls.mono HC2.out ?_
      rintro e w2 ⟨rfl, rfl⟩
      clear HC2 HNn
      dsimp only
      go_wp2
      go_roundw
      case rel => exact ⟨by trivial, k + 1, HT.out.2, by go_num, s, by go_num, hs2, HT.out.1⟩
      case measure => have := HT.out.2; simp [intOf]; omega
    · have hkd : decide (k < l) = false := decide_eq_false hlt
      have HF : Hid (n = (numsOfS M (wbit ws)).length) := by show _ = _; rw [HNn.out, show k = l by omega, HA.out]
      clear hlt HNn
      go_wp2
      go_ret
      exact ⟨numsOfS M (wbit ws), by rw [← HF.out]; rfl, .inl ⟨HRt.out, rfl⟩, HB1.out.1⟩
end Go.Proofs.Ytaiikhbfnfcalab

namespace Go.Proofs.Ytaiikhbfnfcalab
open Go.RowKit

/-- The words of a whole set, the first k of them. -/
structure Wholes (m k : Nat) (ws : List Int) : Prop where
  dig : Digs 18446744073709551616 ws
  at' : ∀ j, j < k → ws.getD j 0 = ((2 ^ inWord m j - 1 : Nat) : Int)
theorem Wholes.zero (m q : Nat) : Wholes m 0 (noughts q) := ⟨fun x hx => by unfold noughts at hx; rw [List.eq_of_mem_replicate hx]; omega, fun j hj => absurd hj (Nat.not_lt_zero _)⟩
theorem Wholes.more {m k : Nat} {ws : List Int} (h : Wholes m k ws) (hk : k < ws.length) : Wholes m (k + 1) (ws.set k ((2 ^ inWord m k - 1 : Nat) : Int)) := ⟨digs_set h.dig k (whole_lt (Nat.min_le_right _ _)), fun j hj => by
  rw [getD_set hk]
  by_cases c : j = k
  · rw [if_pos c, c]
  · rw [if_neg c]
    exact h.at' j (by omega)⟩
theorem Wholes.set {m : Nat} {ws : List Int} (h : Wholes m ws.length ws) (hl : ws.length = (m + 63) / 64) : IsSet m (fun _ => true) ws := IsSet.of_words hl h.dig (fun q hq j hj => by
  rw [h.at' q hq, Int.toNat_natCast, IsSet.whole_word _ _ _ hj]
  simp)
end Go.Proofs.Ytaiikhbfnfcalab

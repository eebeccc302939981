/-
  How many bits a word has: bytes side by side.
-/
import Derived.Test.YtfgccldkbolkoaaX14M
namespace Go.Proofs.Ytfgccldkbolkoaa
open Go.RowKit

/-- A function of bytes, at k bytes side by side. -/
def byt14 (f : Nat → Nat) : Nat → Nat → Nat
  | 0, _ => 0
  | k + 1, x => 256 * byt14 f k (x / 256) + f (x % 256)
/-- One byte k times. -/
def rep14 (c : Nat) : Nat → Nat
  | 0 => 0
  | k + 1 => 256 * rep14 c k + c
theorem and_parts (y m b c : Nat) (hb : b < 256) (hc : c < 256) : (256 * y + b) &&& (256 * m + c) = 256 * (y &&& m) + (b &&& c) := by
  have hbc : b &&& c < 256 := Nat.lt_of_le_of_lt Nat.and_le_left hb
  have e1 := Nat.and_div_two_pow (n := 8) (a := 256 * y + b) (b := 256 * m + c)
  have e2 := Nat.and_mod_two_pow (n := 8) (a := 256 * y + b) (b := 256 * m + c)
  have p : (2 : Nat) ^ 8 = 256 := by decide
  rw [p] at e1 e2
  rw [show (256 * y + b) / 256 = y by omega, show (256 * m + c) / 256 = m by omega] at e1
  rw [show (256 * y + b) % 256 = b by omega, show (256 * m + c) % 256 = c by omega] at e2
  omega
theorem byt14_lt (f : Nat → Nat) (hf : ∀ b, f b < 256) : ∀ k x, byt14 f k x < 256 ^ k
  | 0, x => by simp [byt14]
  | k + 1, x => by
    have h1 := byt14_lt f hf k (x / 256)
    have h2 := hf (x % 256)
    simp only [byt14]
    rw [Nat.pow_succ]
    omega
theorem byt14_div (f : Nat → Nat) (hf : ∀ b, f b < 256) (k x : Nat) : byt14 f (k + 1) x / 256 = byt14 f k (x / 256) := by
  have := hf (x % 256)
  simp only [byt14]
  omega
theorem byt14_mod (f : Nat → Nat) (hf : ∀ b, f b < 256) (k x : Nat) : byt14 f (k + 1) x % 256 = f (x % 256) := by
  have := hf (x % 256)
  simp only [byt14]
  omega
/-- Pairs, then fours, then bytes. -/
def fA14 (b : Nat) : Nat := (b / 2 &&& 85) + (b &&& 85)
def fB14 (b : Nat) : Nat := (b / 4 &&& 51) + (b &&& 51)
def fC14 (b : Nat) : Nat := (b / 16 + b) &&& 15
def pop14 (b : Nat) : Nat := fC14 (fB14 (fA14 (b % 256)))
theorem fA14_ok : ∀ b, b < 256 → fA14 b < 256 := by decide +kernel
theorem fB14_ok : ∀ b, b < 256 → fB14 b < 256 := by decide +kernel
theorem fBA14_ok : ∀ b, b < 256 → fB14 (fA14 b) % 16 ≤ 4 ∧ fB14 (fA14 b) / 16 ≤ 4 := by decide +kernel
theorem pop14_ok : ∀ b, b < 256 → pop14 b ≤ 8 ∧ (numsOfS 8 (fun j => b.testBit j)).length = pop14 b := by decide +kernel
theorem half_bits : ∀ b, b < 256 → ∀ t, t < 2 → (b / 2 + 128 * t) &&& 85 = b / 2 &&& 85 := by decide +kernel
theorem quarter_bits : ∀ b, b < 256 → ∀ t, t < 4 → (b / 4 + 64 * t) &&& 51 = b / 4 &&& 51 := by decide +kernel
theorem low_bits14 (u t : Nat) : (u + 16 * t) &&& 15 = u &&& 15 := by
  have e1 := Nat.and_two_pow_sub_one_eq_mod (u + 16 * t) 4
  have e2 := Nat.and_two_pow_sub_one_eq_mod u 4
  have p : (2 : Nat) ^ 4 - 1 = 15 := by decide
  have p2 : (2 : Nat) ^ 4 = 16 := by decide
  rw [p, p2] at e1 e2
  omega
theorem stepA14 : ∀ k x, x < 256 ^ k → (x / 2 &&& rep14 85 k) + (x &&& rep14 85 k) = byt14 fA14 k x
  | 0, x, _ => by simp [rep14, byt14]
  | k + 1, x, h => by
    rw [Nat.pow_succ] at h
    obtain ⟨y, hy⟩ : ∃ y, y = x / 256 := ⟨_, rfl⟩
    obtain ⟨b, hb⟩ : ∃ b, b = x % 256 := ⟨_, rfl⟩
    have hb2 : b < 256 := by omega
    have ih := stepA14 k y (by omega)
    have ex : x = 256 * y + b := by omega
    have eh : x / 2 = 256 * (y / 2) + (b / 2 + 128 * (y % 2)) := by omega
    have hs := half_bits b hb2 (y % 2) (by omega)
    simp only [rep14, byt14]
    rw [← hy, ← hb, eh, and_parts _ _ _ _ (by omega) (by decide), hs]
    rw [ex, and_parts _ _ _ _ hb2 (by decide)]
    rw [← ih, show fA14 b = (b / 2 &&& 85) + (b &&& 85) from rfl]
    omega
theorem stepB14 : ∀ k x, x < 256 ^ k → (x / 4 &&& rep14 51 k) + (x &&& rep14 51 k) = byt14 fB14 k x
  | 0, x, _ => by simp [rep14, byt14]
  | k + 1, x, h => by
    rw [Nat.pow_succ] at h
    obtain ⟨y, hy⟩ : ∃ y, y = x / 256 := ⟨_, rfl⟩
    obtain ⟨b, hb⟩ : ∃ b, b = x % 256 := ⟨_, rfl⟩
    have hb2 : b < 256 := by omega
    have ih := stepB14 k y (by omega)
    have ex : x = 256 * y + b := by omega
    have eh : x / 4 = 256 * (y / 4) + (b / 4 + 64 * (y % 4)) := by omega
    have hs := quarter_bits b hb2 (y % 4) (by omega)
    simp only [rep14, byt14]
    rw [← hy, ← hb, eh, and_parts _ _ _ _ (by omega) (by decide), hs]
    rw [ex, and_parts _ _ _ _ hb2 (by decide)]
    rw [← ih, show fB14 b = (b / 4 &&& 51) + (b &&& 51) from rfl]
    omega
theorem stepC14 (f : Nat → Nat) (hf : ∀ b, f b % 16 ≤ 4 ∧ f b / 16 ≤ 4) : ∀ k x, (byt14 f k x / 16 + byt14 f k x) &&& rep14 15 k = byt14 (fun b => fC14 (f b)) k x
  | 0, x => by simp [rep14, byt14]
  | k + 1, x => by
    have ih := stepC14 f hf k (x / 256)
    have h1 := hf (x % 256)
    have h2 : byt14 f k (x / 256) % 16 ≤ 4 := by
      cases k with
      | zero => simp [byt14]
      | succ k =>
        have := hf (x / 256 % 256)
        simp only [byt14]
        omega
    obtain ⟨Y, hY⟩ : ∃ Y, Y = byt14 f k (x / 256) := ⟨_, rfl⟩
    obtain ⟨b, hb⟩ : ∃ b, b = f (x % 256) := ⟨_, rfl⟩
    have hs := low_bits14 (b / 16 + b) (Y % 16)
    simp only [rep14, byt14]
    rw [← hY] at ih h2
    rw [← hb] at h1
    rw [← hY, ← hb, ← ih, show (256 * Y + b) / 16 + (256 * Y + b) = 256 * (Y / 16 + Y) + (b / 16 + b + 16 * (Y % 16)) by omega, and_parts _ _ _ _ (by omega) (by decide), hs]
    rfl
theorem byt14_comp (f g : Nat → Nat) (hg : ∀ b, g b < 256) : ∀ k x, byt14 f k (byt14 g k x) = byt14 (fun b => f (g b)) k x
  | 0, x => by simp [byt14]
  | k + 1, x => by
    have ih := byt14_comp f g hg k (x / 256)
    have h1 := byt14_div g hg k x
    have h2 := byt14_mod g hg k x
    show 256 * byt14 f k (byt14 g (k + 1) x / 256) + f (byt14 g (k + 1) x % 256) = 256 * byt14 (fun b => f (g b)) k (x / 256) + f (g (x % 256))
    rw [h1, h2, ih]
theorem byt14_congr {f g : Nat → Nat} (h : ∀ b, b < 256 → f b = g b) : ∀ k x, byt14 f k x = byt14 g k x
  | 0, x => by simp [byt14]
  | k + 1, x => by
    simp only [byt14]
    rw [byt14_congr h k, h _ (Nat.mod_lt _ (by decide))]
/-- The eight sums of bits, side by side. -/
theorem pops14 {x x1 x2 x3 : Nat} (hx : x < 18446744073709551616) (h1 : x1 = (x / 2 &&& 6148914691236517205) + (x &&& 6148914691236517205)) (h2 : x2 = (x1 / 4 &&& 3689348814741910323) + (x1 &&& 3689348814741910323)) (h3 : x3 = (x2 / 16 + x2) &&& 1085102592571150095) :
    x1 < 18446744073709551616 ∧ x2 < 18446744073709551616 ∧ x2 / 16 + x2 < 18446744073709551616 ∧ x3 = byt14 pop14 8 x := by
  have p8 : (256 : Nat) ^ 8 = 18446744073709551616 := by decide
  have m0 : rep14 85 8 = 6148914691236517205 := by decide
  have m1 : rep14 51 8 = 3689348814741910323 := by decide
  have m2 : rep14 15 8 = 1085102592571150095 := by decide
  let A : Nat → Nat := fun b => fA14 (b % 256)
  have hA : ∀ b, A b < 256 := fun b => fA14_ok _ (Nat.mod_lt _ (by decide))
  let B : Nat → Nat := fun b => fB14 (A b)
  have hB : ∀ b, B b < 256 := fun b => fB14_ok _ (hA b)
  have hB2 : ∀ b, B b % 16 ≤ 4 ∧ B b / 16 ≤ 4 := fun b => fBA14_ok _ (Nat.mod_lt _ (by decide))
  have e1 : x1 = byt14 A 8 x := by
    rw [h1, ← m0, stepA14 8 x (by rw [p8]; exact hx)]
    exact byt14_congr (fun b hb => by show fA14 b = fA14 (b % 256); rw [Nat.mod_eq_of_lt hb]) 8 x
  have l1 := byt14_lt A hA 8 x
  rw [p8, ← e1] at l1
  have e2 : x2 = byt14 B 8 x := by
    rw [h2, ← m1, stepB14 8 x1 (by rw [p8]; exact l1), e1, byt14_comp _ _ hA]
  have l2 := byt14_lt B hB 8 x
  rw [p8, ← e2] at l2
  refine ⟨l1, l2, ?_, ?_⟩
  · have h7 : x2 / 72057594037927936 ≤ 68 := by
      have t : ∀ k y, byt14 B (k + 1) y < 69 * 256 ^ k := by
        intro k
        induction k with
        | zero => intro y; have := hB2 (y % 256); simp only [byt14]; omega
        | succ k ih =>
          intro y
          have q1 := ih (y / 256)
          have q2 := hB (y % 256)
          show 256 * byt14 B (k + 1) (y / 256) + B (y % 256) < _
          rw [Nat.pow_succ]
          omega
      have := t 7 x
      rw [← e2, show (256 : Nat) ^ 7 = 72057594037927936 by decide] at this
      omega
    omega
  · rw [h3, ← m2, e2]
    exact stepC14 B hB2 8 x
theorem pop14_le (b : Nat) : pop14 b ≤ 8 := by
  have := (pop14_ok (b % 256) (Nat.mod_lt _ (by decide))).1
  unfold pop14 at this ⊢
  rwa [Nat.mod_mod] at this
theorem byte_bit (x j : Nat) (hj : j < 8) : (x % 256).testBit j = x.testBit j := by
  rw [show (256 : Nat) = 2 ^ 8 by decide, Nat.testBit_mod_two_pow]
  simp [hj]
theorem next_bit (x j : Nat) : (x / 256).testBit j = x.testBit (8 + j) := by
  rw [show (256 : Nat) = 2 ^ 8 by decide, Nat.testBit_div_two_pow, Nat.add_comm]
theorem nums_byte (x n : Nat) : (numsOfS (8 + n) (fun j => x.testBit j)).length = pop14 (x % 256) + (numsOfS n (fun j => (x / 256).testBit j)).length := by
  rw [numsOfS_more, ← (pop14_ok (x % 256) (Nat.mod_lt _ (by decide))).2]
  congr 2
  · exact numsOfS_congr (fun j hj => (byte_bit x j hj).symm)
  · exact numsOfS_congr (fun j _ => (next_bit x j).symm)
/-- The sum of the bytes. -/
def sum14b : Nat → Nat → Nat
  | 0, _ => 0
  | k + 1, x => pop14 (x % 256) + sum14b k (x / 256)
theorem nums_bytes : ∀ k x, (numsOfS (8 * k) (fun j => x.testBit j)).length = sum14b k x
  | 0, _ => rfl
  | k + 1, x => by
    rw [show 8 * (k + 1) = 8 + 8 * k by omega, nums_byte, nums_bytes k]
    rfl
/-- The sum of eight bytes by three additions. -/
theorem eight14 (a0 a1 a2 a3 a4 a5 a6 a7 t s u v : Nat) (q0 : a0 ≤ 8) (q1 : a1 ≤ 8) (q2 : a2 ≤ 8) (q3 : a3 ≤ 8) (q4 : a4 ≤ 8) (q5 : a5 ≤ 8) (q6 : a6 ≤ 8) (q7 : a7 ≤ 8)
    (ht : t = 256 * (256 * (256 * (256 * (256 * (256 * (256 * (256 * 0 + a7) + a6) + a5) + a4) + a3) + a2) + a1) + a0) (hs : s = t + t / 256) (hu : u = s + s / 65536) (hv : v = u + u / 4294967296) :
    s < 1152921504606846976 ∧ u < 1152921504606846976 ∧ v < 1152921504606846976 ∧ v % 128 = a0 + (a1 + (a2 + (a3 + (a4 + (a5 + (a6 + (a7 + 0))))))) := by
  have e1 : t / 256 = 256 * (256 * (256 * (256 * (256 * (256 * a7 + a6) + a5) + a4) + a3) + a2) + a1 := by omega
  have es : s = (a0 + a1) + 256 * (a1 + a2) + 65536 * ((a2 + a3) + 256 * (a3 + a4) + 65536 * ((a4 + a5) + 256 * (a5 + a6) + 65536 * ((a6 + a7) + 256 * a7))) := by omega
  clear e1 hs ht
  have e2 : s / 65536 = (a2 + a3) + 256 * (a3 + a4) + 65536 * ((a4 + a5) + 256 * (a5 + a6) + 65536 * ((a6 + a7) + 256 * a7)) := by omega
  obtain ⟨r, er⟩ : ∃ r, r = (a4 + a5 + a6 + a7) + 256 * (a5 + a6 + a7) + 65536 * (a6 + a7 + 256 * a7) := ⟨_, rfl⟩
  have eu : u = (a0 + a1 + a2 + a3) + 256 * (a1 + a2 + a3 + a4) + 65536 * (a2 + a3 + a4 + a5 + 256 * (a3 + a4 + a5 + a6)) + 4294967296 * r := by omega
  have s1 : s < 1152921504606846976 := by omega
  clear e2 es hu
  have e3 : u / 4294967296 = r := by omega
  have ev : v = (a0 + a1 + a2 + a3 + a4 + a5 + a6 + a7) + 128 * (2 * (a1 + a2 + a3 + a4 + a5 + a6 + a7) + 512 * (a2 + a3 + a4 + a5 + a6 + a7 + 256 * (a3 + a4 + a5 + a6 + a7)) + 33554432 * r) := by omega
  refine ⟨s1, by omega, by omega, by omega⟩
theorem sum14 (x t s u v : Nat) (ht : t = byt14 pop14 8 x) (hs : s = t + t / 256) (hu : u = s + s / 65536) (hv : v = u + u / 4294967296) :
    s < 1152921504606846976 ∧ u < 1152921504606846976 ∧ v < 1152921504606846976 ∧ v % 128 = (numsOfS 64 (fun j => x.testBit j)).length := by
  have hn : (numsOfS 64 (fun j => x.testBit j)).length = sum14b 8 x := nums_bytes 8 x
  rw [hn]
  exact eight14 _ _ _ _ _ _ _ _ t s u v (pop14_le _) (pop14_le _) (pop14_le _) (pop14_le _) (pop14_le _) (pop14_le _) (pop14_le _) (pop14_le _) ht hs hu hv
end Go.Proofs.Ytfgccldkbolkoaa

/-
  The check sum of bytes, by definition: what it is, and what it tells apart.
-/
import Derived.Test.YtpoipobmkfphcaaC9Ans
namespace Go.Proofs.Ytpoipobmkfphcaa
open Go.RowKit

/-- One step of the sum's register; so many steps; a byte; bytes; the sum. -/
def stepC (r : Nat) : Nat := if r % 2 = 1 then (r / 2) ^^^ 3988292384 else r / 2
def stepsC : Nat → Nat → Nat
  | 0, r => r
  | n + 1, r => stepsC n (stepC r)
def byteC (r b : Nat) : Nat := stepsC 8 (r ^^^ b)
def runC : Nat → List Int → Nat
  | r, [] => r
  | r, b :: bs => runC (byteC r b.toNat) bs
theorem runC_nil (r : Nat) : runC r [] = r := rfl
theorem runC_cons (r : Nat) (b : Int) (bs : List Int) : runC r (b :: bs) = runC (byteC r b.toNat) bs := rfl
def sumC (bs : List Int) : Nat := runC 4294967295 bs ^^^ 4294967295

theorem xor_lt32 {a b : Nat} (ha : a < 4294967296) (hb : b < 4294967296) : a ^^^ b < 4294967296 := Nat.xor_lt_two_pow (n := 32) ha hb
theorem xor_cancel {a b c : Nat} (h : a ^^^ c = b ^^^ c) : a = b := by
  have := congrArg (· ^^^ c) h
  simpa [Nat.xor_assoc, Nat.xor_self] using this
theorem xor_cancel' {a b c : Nat} (h : c ^^^ a = c ^^^ b) : a = b := xor_cancel (c := c) (by rw [Nat.xor_comm a, Nat.xor_comm b]; exact h)
theorem stepC_lt {r : Nat} (h : r < 4294967296) : stepC r < 4294967296 := by
  unfold stepC
  split
  · exact xor_lt32 (by omega) (by decide)
  · omega
theorem stepC_xor (a b : Nat) : stepC (a ^^^ b) = stepC a ^^^ stepC b := by
  unfold stepC
  rw [Nat.xor_div_two]
  have h := Nat.xor_mod_two_eq_one (a := a) (b := b)
  by_cases ha : a % 2 = 1 <;> by_cases hb : b % 2 = 1
  · have hn : ¬ (a ^^^ b) % 2 = 1 := fun e => (h.1 e) ⟨fun _ => hb, fun _ => ha⟩
    rw [if_pos ha, if_pos hb, if_neg hn]
    rw [Nat.xor_assoc, Nat.xor_comm 3988292384, Nat.xor_assoc (b / 2), Nat.xor_self, Nat.xor_zero]
  · rw [if_pos ha, if_neg hb, if_pos (h.2 (fun e => hb (e.1 ha)))]
    rw [Nat.xor_assoc, Nat.xor_comm (b / 2), ← Nat.xor_assoc]
  · rw [if_neg ha, if_pos hb, if_pos (h.2 (fun e => ha (e.2 hb)))]
    rw [Nat.xor_assoc]
  · have hn : ¬ (a ^^^ b) % 2 = 1 := fun e => (h.1 e) ⟨fun k => absurd k ha, fun k => absurd k hb⟩
    rw [if_neg ha, if_neg hb, if_neg hn]
theorem high_bit {a : Nat} (h : a < 2147483648) : 2147483648 ≤ a ^^^ 3988292384 := by
  have h1 : (a ^^^ 3988292384).testBit 31 = true := by
    rw [Nat.testBit_xor, Nat.testBit_lt_two_pow (x := a) (i := 31) (by omega)]
    decide
  exact Nat.ge_two_pow_of_testBit h1
theorem stepC_inj {a b : Nat} (ha : a < 4294967296) (hb : b < 4294967296) (h : stepC a = stepC b) : a = b := by
  unfold stepC at h
  by_cases pa : a % 2 = 1 <;> by_cases pb : b % 2 = 1
  · rw [if_pos pa, if_pos pb] at h
    have := xor_cancel h
    omega
  · rw [if_pos pa, if_neg pb] at h
    have := high_bit (a := a / 2) (by omega)
    omega
  · rw [if_neg pa, if_pos pb] at h
    have := high_bit (a := b / 2) (by omega)
    omega
  · rw [if_neg pa, if_neg pb] at h
    omega
theorem stepsC_lt : ∀ (n : Nat) {r : Nat}, r < 4294967296 → stepsC n r < 4294967296
  | 0, _, h => h
  | n + 1, _, h => stepsC_lt n (stepC_lt h)
theorem stepsC_xor : ∀ (n a b : Nat), stepsC n (a ^^^ b) = stepsC n a ^^^ stepsC n b
  | 0, _, _ => rfl
  | n + 1, a, b => by
    show stepsC n (stepC (a ^^^ b)) = _
    rw [stepC_xor, stepsC_xor n]
    rfl
theorem stepsC_inj : ∀ (n : Nat) {a b : Nat}, a < 4294967296 → b < 4294967296 → stepsC n a = stepsC n b → a = b
  | 0, _, _, _, _, h => h
  | n + 1, _, _, ha, hb, h => stepC_inj ha hb (stepsC_inj n (stepC_lt ha) (stepC_lt hb) h)
theorem stepsC_add : ∀ (n m r : Nat), stepsC (n + m) r = stepsC m (stepsC n r)
  | 0, m, r => by rw [Nat.zero_add]; rfl
  | n + 1, m, r => by
    rw [show n + 1 + m = (n + m) + 1 by omega]
    exact stepsC_add n m (stepC r)
theorem stepsC_even : ∀ (n y : Nat), stepsC n (2 ^ n * y) = y
  | 0, y => by simp [stepsC]
  | n + 1, y => by
    have e : 2 ^ (n + 1) * y = 2 * (2 ^ n * y) := by rw [Nat.pow_succ, Nat.mul_comm (2 ^ n) 2, Nat.mul_assoc]
    show stepsC n (stepC (2 ^ (n + 1) * y)) = y
    have h : stepC (2 ^ (n + 1) * y) = 2 ^ n * y := by
      unfold stepC
      rw [e, if_neg (by omega)]
      omega
    rw [h]
    exact stepsC_even n y
theorem xor_add {i a b : Nat} (h : b < 2 ^ i) : 2 ^ i * a ^^^ b = 2 ^ i * a + b := by
  apply Nat.eq_of_testBit_eq
  intro j
  rw [Nat.testBit_xor, Nat.testBit_two_pow_mul_add _ h, Nat.testBit_two_pow_mul]
  by_cases c : j < i
  · simp [c, show ¬ i ≤ j by omega]
  · have : b < 2 ^ j := Nat.lt_of_lt_of_le h (Nat.pow_le_pow_right (by omega) (by omega))
    simp [c, show i ≤ j by omega, Nat.testBit_lt_two_pow this]
/-- A byte by a table of 256 numbers. -/
theorem stepsC_table (x : Nat) : stepsC 8 x = stepsC 8 (x % 256) ^^^ x / 256 := by
  have e : x = 2 ^ 8 * (x / 256) ^^^ x % 256 := by
    rw [xor_add (by omega)]
    omega
  have h : stepsC 8 x = stepsC 8 (2 ^ 8 * (x / 256) ^^^ x % 256) := congrArg (stepsC 8) e
  rw [h, stepsC_xor, stepsC_even, Nat.xor_comm]
theorem byteC_table {r b : Nat} (hb : b < 256) : byteC r b = stepsC 8 ((r ^^^ b) % 256) ^^^ r / 256 := by
  unfold byteC
  rw [stepsC_table, Nat.xor_div_two_pow (n := 8) (a := r) (b := b), show b / 2 ^ 8 = 0 by omega, Nat.xor_zero]
theorem byteC_lt {r b : Nat} (hr : r < 4294967296) (hb : b < 256) : byteC r b < 4294967296 := stepsC_lt 8 (xor_lt32 hr (by omega))
theorem runC_lt : ∀ {r : Nat} {bs : List Int}, r < 4294967296 → Digs 256 bs → runC r bs < 4294967296
  | _, [], h, _ => h
  | r, b :: bs, h, hd => by
    have hb := hd b (by simp)
    have k := runC_lt (r := byteC r b.toNat) (bs := bs) (byteC_lt h (by omega)) (fun x hx => hd x (by simp [hx]))
    exact k
theorem runC_append : ∀ (r : Nat) (xs ys : List Int), runC r (xs ++ ys) = runC (runC r xs) ys
  | _, [], _ => rfl
  | _, _ :: xs, ys => runC_append _ xs ys
theorem sumC_lt {bs : List Int} (h : Digs 256 bs) : sumC bs < 4294967296 := xor_lt32 (runC_lt (by decide) h) (by decide)
theorem runC_inj : ∀ {bs : List Int} {r s : Nat}, Digs 256 bs → r < 4294967296 → s < 4294967296 → runC r bs = runC s bs → r = s
  | [], _, _, _, _, _, h => h
  | b :: bs, r, s, hd, hr, hs, h => by
    have hb := hd b (by simp)
    have hb2 : b.toNat < 256 := by omega
    have h1 := runC_inj (bs := bs) (fun x hx => hd x (by simp [hx])) (byteC_lt hr hb2) (byteC_lt hs hb2) h
    exact xor_cancel (stepsC_inj 8 (xor_lt32 hr (by omega)) (xor_lt32 hs (by omega)) h1)
/-- One byte turned: another sum. -/
theorem sumC_turned {xs ys : List Int} {x y : Int} (h1 : Digs 256 xs) (h2 : Digs 256 ys) (hx : 0 ≤ x ∧ x < 256) (hy : 0 ≤ y ∧ y < 256) (h : sumC (xs ++ x :: ys) = sumC (xs ++ y :: ys)) : x = y := by
  unfold sumC at h
  have h := xor_cancel h
  rw [runC_append, runC_append] at h
  have hr := runC_lt (r := 4294967295) (by decide) h1
  have k := runC_inj h2 (byteC_lt hr (by omega)) (byteC_lt hr (by omega)) (show runC (byteC (runC 4294967295 xs) x.toNat) ys = runC (byteC (runC 4294967295 xs) y.toNat) ys from h)
  have k2 := stepsC_inj 8 (xor_lt32 hr (by omega)) (xor_lt32 hr (by omega)) k
  have k3 := xor_cancel' k2
  omega

/-- Four bytes of a number, the lowest first, and the highest first. -/
def le4 (s : Nat) : List Int := [((s % 256 : Nat) : Int), ((s / 256 % 256 : Nat) : Int), ((s / 65536 % 256 : Nat) : Int), ((s / 16777216 % 256 : Nat) : Int)]
def be4 (s : Nat) : List Int := [((s / 16777216 % 256 : Nat) : Int), ((s / 65536 % 256 : Nat) : Int), ((s / 256 % 256 : Nat) : Int), ((s % 256 : Nat) : Int)]
theorem be4_len (s : Nat) : (be4 s).length = 4 := rfl
theorem be4_digs (s : Nat) : Digs 256 (be4 s) := by
  intro x hx
  simp [be4] at hx
  omega
theorem be4_inj {s t : Nat} (hs : s < 4294967296) (ht : t < 4294967296) (h : be4 s = be4 t) : s = t := by
  simp [be4] at h
  omega
theorem byteC_in (k a b : Nat) : stepsC k a ^^^ b = stepsC k (a ^^^ 2 ^ k * b) := by rw [stepsC_xor, stepsC_even]
theorem four_xor {s : Nat} (h : s < 4294967296) : s % 256 ^^^ 2 ^ 8 * (s / 256 % 256) ^^^ 2 ^ 16 * (s / 65536 % 256) ^^^ 2 ^ 24 * (s / 16777216 % 256) = s := by
  have e1 : s % 256 ^^^ 2 ^ 8 * (s / 256 % 256) = s % 65536 := by
    rw [Nat.xor_comm, xor_add (by omega)]
    omega
  have e2 : s % 65536 ^^^ 2 ^ 16 * (s / 65536 % 256) = s % 16777216 := by
    rw [Nat.xor_comm, xor_add (by omega)]
    omega
  have e3 : s % 16777216 ^^^ 2 ^ 24 * (s / 16777216 % 256) = s := by
    rw [Nat.xor_comm, xor_add (by omega)]
    omega
  rw [e1, e2, e3]
/-- Four bytes of a number, the lowest first, go into the register as one. -/
theorem runC_four (r a b c d : Nat) : runC r [(a : Int), (b : Int), (c : Int), (d : Int)] = byteC (byteC (byteC (byteC r a) b) c) d := by
  have h1 : ∀ (r x : Nat) (bs : List Int), runC r ((x : Int) :: bs) = runC (byteC r x) bs := fun r x bs => runC_cons r x bs
  refine (h1 r a _).trans ((h1 _ b _).trans ((h1 _ c _).trans ((h1 _ d _).trans ?_)))
  exact runC_nil _
theorem runC_le4 {r s : Nat} (h : s < 4294967296) : runC r (le4 s) = stepsC 32 (r ^^^ s) := by
  unfold le4
  rw [runC_four]
  unfold byteC
  rw [byteC_in 8 (r ^^^ s % 256), ← stepsC_add, byteC_in (8 + 8), ← stepsC_add, byteC_in (8 + 8 + 8), ← stepsC_add]
  have hX : r ^^^ s % 256 ^^^ 2 ^ 8 * (s / 256 % 256) ^^^ 2 ^ (8 + 8) * (s / 65536 % 256) ^^^ 2 ^ (8 + 8 + 8) * (s / 16777216 % 256) = r ^^^ s := by
    have h4 := four_xor h
    rw [Nat.xor_assoc r, Nat.xor_assoc r, Nat.xor_assoc r]
    exact congrArg (r ^^^ ·) h4
  rw [hX]
theorem sumC_all {bs : List Int} (h : Digs 256 bs) : sumC (bs ++ le4 (sumC bs)) = 558161692 := by
  have hs := sumC_lt h
  unfold sumC
  rw [runC_append, show runC 4294967295 bs ^^^ 4294967295 = sumC bs from rfl, runC_le4 hs]
  have e : runC 4294967295 bs ^^^ sumC bs = 4294967295 := by
    unfold sumC
    rw [← Nat.xor_assoc, Nat.xor_self, Nat.zero_xor]
  rw [e]
  decide

/-- XOR of the model's numbers. -/
theorem bits_xor32 (a b : Nat) (ha : a < 4294967296) (hb : b < 4294967296) : bits .xor .u32 (a : Int) (b : Int) = ((a ^^^ b : Nat) : Int) := by
  have h := xor_lt32 ha hb
  show IntKind.u32.wrap (((BitVec.ofInt 32 (a : Int) ^^^ BitVec.ofInt 32 (b : Int)).toNat : Nat) : Int) = _
  have e1 : (BitVec.ofInt 32 (a : Int)).toNat = a := by
    rw [BitVec.toNat_ofInt]
    omega
  have e2 : (BitVec.ofInt 32 (b : Int)).toNat = b := by
    rw [BitVec.toNat_ofInt]
    omega
  rw [BitVec.toNat_xor, e1, e2]
  simp only [IntKind.wrap, IntKind.signed, IntKind.bits]
  simp
  omega
end Go.Proofs.Ytpoipobmkfphcaa

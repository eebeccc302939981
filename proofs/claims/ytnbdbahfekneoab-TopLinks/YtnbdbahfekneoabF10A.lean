/-
  The check sum of bytes, by definition: what it is, and what it tells apart.
  Frames as bytes: what they are, and that each is of one frame alone.
  What is read of a frame's bytes; a frame's variable in memory.
-/
import Derived.Test.YtnbdbahfekneoabC9A
import Derived.Test.YtnbdbahfekneoabC9C
import Derived.Test.YtnbdbahfekneoabModA
namespace Go.Proofs.Ytnbdbahfekneoab
open Go.RowKit

/-- One step of the sum's register; so many steps; a byte; bytes; the sum. -/
def stepC (r : Nat) : Nat := if r % 2 = 1 then (r / 2) ^^^ 3988292384 else r / 2
def stepsC : Nat → Nat → Nat
  | 0, r => r
  | n + 1, r => stepsC n (stepC r)
def byteC (r b : Nat) : Nat := stepsC 8 (r ^^^ b)
def runC : Nat → List Int → Nat
  | r, [] => r
  | r, b :: bs => runC (byteC r b.toNat) bs
theorem runC_nil (r : Nat) : runC r [] = r := rfl
theorem runC_cons (r : Nat) (b : Int) (bs : List Int) : runC r (b :: bs) = runC (byteC r b.toNat) bs := rfl
def sumC (bs : List Int) : Nat := runC 4294967295 bs ^^^ 4294967295

theorem xor_lt32 {a b : Nat} (ha : a < 4294967296) (hb : b < 4294967296) : a ^^^ b < 4294967296 := Nat.xor_lt_two_pow (n := 32) ha hb
theorem xor_cancel {a b c : Nat} (h : a ^^^ c = b ^^^ c) : a = b := by
  have := congrArg (· ^^^ c) h
  simpa [Nat.xor_assoc, Nat.xor_self] using this
theorem xor_cancel' {a b c : Nat} (h : c ^^^ a = c ^^^ b) : a = b := xor_cancel (c := c) (by rw [Nat.xor_comm a, Nat.xor_comm b]; exact h)
theorem stepC_lt {r : Nat} (h : r < 4294967296) : stepC r < 4294967296 := by
  unfold stepC
  split
  · exact xor_lt32 (by omega) (by decide)
  · omega
theorem stepC_xor (a b : Nat) : stepC (a ^^^ b) = stepC a ^^^ stepC b := by
  unfold stepC
  rw [Nat.xor_div_two]
  have h := Nat.xor_mod_two_eq_one (a := a) (b := b)
  by_cases ha : a % 2 = 1 <;> by_cases hb : b % 2 = 1
  · have hn : ¬ (a ^^^ b) % 2 = 1 := fun e => (h.1 e) ⟨fun _ => hb, fun _ => ha⟩
    rw [if_pos ha, if_pos hb, if_neg hn]
    rw [Nat.xor_assoc, Nat.xor_comm 3988292384, Nat.xor_assoc (b / 2), Nat.xor_self, Nat.xor_zero]
  · rw [if_pos ha, if_neg hb, if_pos (h.2 (fun e => hb (e.1 ha)))]
    rw [Nat.xor_assoc, Nat.xor_comm (b / 2), ← Nat.xor_assoc]
  · rw [if_neg ha, if_pos hb, if_pos (h.2 (fun e => ha (e.2 hb)))]
    rw [Nat.xor_assoc]
  · have hn : ¬ (a ^^^ b) % 2 = 1 := fun e => (h.1 e) ⟨fun k => absurd k ha, fun k => absurd k hb⟩
    rw [if_neg ha, if_neg hb, if_neg hn]
theorem high_bit {a : Nat} (h : a < 2147483648) : 2147483648 ≤ a ^^^ 3988292384 := by
  have h1 : (a ^^^ 3988292384).testBit 31 = true := by
    rw [Nat.testBit_xor, Nat.testBit_lt_two_pow (x := a) (i := 31) (by omega)]
    decide
  exact Nat.ge_two_pow_of_testBit h1
theorem stepC_inj {a b : Nat} (ha : a < 4294967296) (hb : b < 4294967296) (h : stepC a = stepC b) : a = b := by
  unfold stepC at h
  by_cases pa : a % 2 = 1 <;> by_cases pb : b % 2 = 1
  · rw [if_pos pa, if_pos pb] at h
    have := xor_cancel h
    omega
  · rw [if_pos pa, if_neg pb] at h
    have := high_bit (a := a / 2) (by omega)
    omega
  · rw [if_neg pa, if_pos pb] at h
    have := high_bit (a := b / 2) (by omega)
    omega
  · rw [if_neg pa, if_neg pb] at h
    omega
theorem stepsC_lt : ∀ (n : Nat) {r : Nat}, r < 4294967296 → stepsC n r < 4294967296
  | 0, _, h => h
  | n + 1, _, h => stepsC_lt n (stepC_lt h)
theorem stepsC_xor : ∀ (n a b : Nat), stepsC n (a ^^^ b) = stepsC n a ^^^ stepsC n b
  | 0, _, _ => rfl
  | n + 1, a, b => by
    show stepsC n (stepC (a ^^^ b)) = _
    rw [stepC_xor, stepsC_xor n]
    rfl
theorem stepsC_inj : ∀ (n : Nat) {a b : Nat}, a < 4294967296 → b < 4294967296 → stepsC n a = stepsC n b → a = b
  | 0, _, _, _, _, h => h
  | n + 1, _, _, ha, hb, h => stepC_inj ha hb (stepsC_inj n (stepC_lt ha) (stepC_lt hb) h)
theorem stepsC_add : ∀ (n m r : Nat), stepsC (n + m) r = stepsC m (stepsC n r)
  | 0, m, r => by rw [Nat.zero_add]; rfl
  | n + 1, m, r => by
    rw [show n + 1 + m = (n + m) + 1 by omega]
    exact stepsC_add n m (stepC r)
theorem stepsC_even : ∀ (n y : Nat), stepsC n (2 ^ n * y) = y
  | 0, y => by simp [stepsC]
  | n + 1, y => by
    have e : 2 ^ (n + 1) * y = 2 * (2 ^ n * y) := by rw [Nat.pow_succ, Nat.mul_comm (2 ^ n) 2, Nat.mul_assoc]
    show stepsC n (stepC (2 ^ (n + 1) * y)) = y
    have h : stepC (2 ^ (n + 1) * y) = 2 ^ n * y := by
      unfold stepC
      rw [e, if_neg (by omega)]
      omega
    rw [h]
    exact stepsC_even n y
theorem xor_add {i a b : Nat} (h : b < 2 ^ i) : 2 ^ i * a ^^^ b = 2 ^ i * a + b := by
  apply Nat.eq_of_testBit_eq
  intro j
  rw [Nat.testBit_xor, Nat.testBit_two_pow_mul_add _ h, Nat.testBit_two_pow_mul]
  by_cases c : j < i
  · simp [c, show ¬ i ≤ j by omega]
  · have : b < 2 ^ j := Nat.lt_of_lt_of_le h (Nat.pow_le_pow_right (by omega) (by omega))
    simp [c, show i ≤ j by omega, Nat.testBit_lt_two_pow this]
/-- A byte by a table of 256 numbers. -/
theorem stepsC_table (x : Nat) : stepsC 8 x = stepsC 8 (x % 256) ^^^ x / 256 := by
  have e : x = 2 ^ 8 * (x / 256) ^^^ x % 256 := by
    rw [xor_add (by omega)]
    omega
  have h : stepsC 8 x = stepsC 8 (2 ^ 8 * (x / 256) ^^^ x % 256) := congrArg (stepsC 8) e
  rw [h, stepsC_xor, stepsC_even, Nat.xor_comm]
theorem byteC_table {r b : Nat} (hb : b < 256) : byteC r b = stepsC 8 ((r ^^^ b) % 256) ^^^ r / 256 := by
  unfold byteC
  rw [stepsC_table, Nat.xor_div_two_pow (n := 8) (a := r) (b := b), show b / 2 ^ 8 = 0 by omega, Nat.xor_zero]
theorem byteC_lt {r b : Nat} (hr : r < 4294967296) (hb : b < 256) : byteC r b < 4294967296 := stepsC_lt 8 (xor_lt32 hr (by omega))
theorem runC_lt : ∀ {r : Nat} {bs : List Int}, r < 4294967296 → Digs 256 bs → runC r bs < 4294967296
  | _, [], h, _ => h
  | r, b :: bs, h, hd => by
    have hb := hd b (by simp)
    have k := runC_lt (r := byteC r b.toNat) (bs := bs) (byteC_lt h (by omega)) (fun x hx => hd x (by simp [hx]))
    exact k
theorem runC_append : ∀ (r : Nat) (xs ys : List Int), runC r (xs ++ ys) = runC (runC r xs) ys
  | _, [], _ => rfl
  | _, _ :: xs, ys => runC_append _ xs ys
theorem sumC_lt {bs : List Int} (h : Digs 256 bs) : sumC bs < 4294967296 := xor_lt32 (runC_lt (by decide) h) (by decide)
theorem runC_inj : ∀ {bs : List Int} {r s : Nat}, Digs 256 bs → r < 4294967296 → s < 4294967296 → runC r bs = runC s bs → r = s
  | [], _, _, _, _, _, h => h
  | b :: bs, r, s, hd, hr, hs, h => by
    have hb := hd b (by simp)
    have hb2 : b.toNat < 256 := by omega
    have h1 := runC_inj (bs := bs) (fun x hx => hd x (by simp [hx])) (byteC_lt hr hb2) (byteC_lt hs hb2) h
    exact xor_cancel (stepsC_inj 8 (xor_lt32 hr (by omega)) (xor_lt32 hs (by omega)) h1)
/-- One byte turned: another sum. -/
theorem sumC_turned {xs ys : List Int} {x y : Int} (h1 : Digs 256 xs) (h2 : Digs 256 ys) (hx : 0 ≤ x ∧ x < 256) (hy : 0 ≤ y ∧ y < 256) (h : sumC (xs ++ x :: ys) = sumC (xs ++ y :: ys)) : x = y := by
  unfold sumC at h
  have h := xor_cancel h
  rw [runC_append, runC_append] at h
  have hr := runC_lt (r := 4294967295) (by decide) h1
  have k := runC_inj h2 (byteC_lt hr (by omega)) (byteC_lt hr (by omega)) (show runC (byteC (runC 4294967295 xs) x.toNat) ys = runC (byteC (runC 4294967295 xs) y.toNat) ys from h)
  have k2 := stepsC_inj 8 (xor_lt32 hr (by omega)) (xor_lt32 hr (by omega)) k
  have k3 := xor_cancel' k2
  omega

/-- Four bytes of a number, the lowest first, and the highest first. -/
def le4 (s : Nat) : List Int := [((s % 256 : Nat) : Int), ((s / 256 % 256 : Nat) : Int), ((s / 65536 % 256 : Nat) : Int), ((s / 16777216 % 256 : Nat) : Int)]
def be4 (s : Nat) : List Int := [((s / 16777216 % 256 : Nat) : Int), ((s / 65536 % 256 : Nat) : Int), ((s / 256 % 256 : Nat) : Int), ((s % 256 : Nat) : Int)]
theorem be4_len (s : Nat) : (be4 s).length = 4 := rfl
theorem be4_digs (s : Nat) : Digs 256 (be4 s) := by
  intro x hx
  simp [be4] at hx
  omega
theorem be4_inj {s t : Nat} (hs : s < 4294967296) (ht : t < 4294967296) (h : be4 s = be4 t) : s = t := by
  simp [be4] at h
  omega
theorem byteC_in (k a b : Nat) : stepsC k a ^^^ b = stepsC k (a ^^^ 2 ^ k * b) := by rw [stepsC_xor, stepsC_even]
theorem four_xor {s : Nat} (h : s < 4294967296) : s % 256 ^^^ 2 ^ 8 * (s / 256 % 256) ^^^ 2 ^ 16 * (s / 65536 % 256) ^^^ 2 ^ 24 * (s / 16777216 % 256) = s := by
  have e1 : s % 256 ^^^ 2 ^ 8 * (s / 256 % 256) = s % 65536 := by
    rw [Nat.xor_comm, xor_add (by omega)]
    omega
  have e2 : s % 65536 ^^^ 2 ^ 16 * (s / 65536 % 256) = s % 16777216 := by
    rw [Nat.xor_comm, xor_add (by omega)]
    omega
  have e3 : s % 16777216 ^^^ 2 ^ 24 * (s / 16777216 % 256) = s := by
    rw [Nat.xor_comm, xor_add (by omega)]
    omega
  rw [e1, e2, e3]
/-- Four bytes of a number, the lowest first, go into the register as one. -/
theorem runC_four (r a b c d : Nat) : runC r [(a : Int), (b : Int), (c : Int), (d : Int)] = byteC (byteC (byteC (byteC r a) b) c) d := by
  have h1 : ∀ (r x : Nat) (bs : List Int), runC r ((x : Int) :: bs) = runC (byteC r x) bs := fun r x bs => runC_cons r x bs
  refine (h1 r a _).trans ((h1 _ b _).trans ((h1 _ c _).trans ((h1 _ d _).trans ?_)))
  exact runC_nil _
theorem runC_le4 {r s : Nat} (h : s < 4294967296) : runC r (le4 s) = stepsC 32 (r ^^^ s) := by
  unfold le4
  rw [runC_four]
  unfold byteC
  rw [byteC_in 8 (r ^^^ s % 256), ← stepsC_add, byteC_in (8 + 8), ← stepsC_add, byteC_in (8 + 8 + 8), ← stepsC_add]
  have hX : r ^^^ s % 256 ^^^ 2 ^ 8 * (s / 256 % 256) ^^^ 2 ^ (8 + 8) * (s / 65536 % 256) ^^^ 2 ^ (8 + 8 + 8) * (s / 16777216 % 256) = r ^^^ s := by
    have h4 := four_xor h
    rw [Nat.xor_assoc r, Nat.xor_assoc r, Nat.xor_assoc r]
    exact congrArg (r ^^^ ·) h4
  rw [hX]
theorem sumC_all {bs : List Int} (h : Digs 256 bs) : sumC (bs ++ le4 (sumC bs)) = 558161692 := by
  have hs := sumC_lt h
  unfold sumC
  rw [runC_append, show runC 4294967295 bs ^^^ 4294967295 = sumC bs from rfl, runC_le4 hs]
  have e : runC 4294967295 bs ^^^ sumC bs = 4294967295 := by
    unfold sumC
    rw [← Nat.xor_assoc, Nat.xor_self, Nat.zero_xor]
  rw [e]
  decide

/-- XOR of the model's numbers. -/
theorem bits_xor32 (a b : Nat) (ha : a < 4294967296) (hb : b < 4294967296) : bits .xor .u32 (a : Int) (b : Int) = ((a ^^^ b : Nat) : Int) := by
  have h := xor_lt32 ha hb
  show IntKind.u32.wrap (((BitVec.ofInt 32 (a : Int) ^^^ BitVec.ofInt 32 (b : Int)).toNat : Nat) : Int) = _
  have e1 : (BitVec.ofInt 32 (a : Int)).toNat = a := by
    rw [BitVec.toNat_ofInt]
    omega
  have e2 : (BitVec.ofInt 32 (b : Int)).toNat = b := by
    rw [BitVec.toNat_ofInt]
    omega
  rw [BitVec.toNat_xor, e1, e2]
  simp only [IntKind.wrap, IntKind.signed, IntKind.bits]
  simp
  omega
end Go.Proofs.Ytnbdbahfekneoab

namespace Go.Proofs.Ytnbdbahfekneoab
open Go.RowKit

/-- A frame may be: Data, Seq, Ack, and how many bytes the Body has. -/
def rightFr (d : Bool) (s a : Int) (n : Nat) : Bool := decide (0 ≤ s) && (decide (s ≤ 1073741824) && (decide (0 ≤ a) && (decide (a ≤ 1073741824) && (decide (n ≤ 1048576) && (d || (decide (s = 0) && decide (n = 0)))))))
theorem rightFr_iff (d : Bool) (s a : Int) (n : Nat) : rightFr d s a n = true ↔ 0 ≤ s ∧ s ≤ 1073741824 ∧ 0 ≤ a ∧ a ≤ 1073741824 ∧ n ≤ 1048576 ∧ (d = true ∨ s = 0 ∧ n = 0) := by simp [rightFr]
/-- What stands ahead of the sum. -/
def IsHead (d : Bool) (s a : Int) (body m : List Int) : Prop := ∃ cs ca cb, IsCode cs s.toNat ∧ IsCode ca a.toNat ∧ IsCode cb body.length ∧ m = (if d then 1 else 0) :: (cs ++ (ca ++ (cb ++ body)))
/-- A frame's bytes. -/
def IsEnc (d : Bool) (s a : Int) (body ys : List Int) : Prop := ∃ m, IsHead d s a body m ∧ ys = m ++ be4 (sumC m)
theorem code_split {c c' x y : List Int} {n n' : Nat} (h : IsCode c n) (h' : IsCode c' n') (e : c ++ x = c' ++ y) : n = n' ∧ x = y := by
  obtain rfl := h.free h' (L := c ++ x) (List.prefix_append _ _) (by rw [e]; exact List.prefix_append _ _)
  exact ⟨h.num h', List.append_cancel_left e⟩
theorem IsHead.unique {d : Bool} {s a : Int} {body m m' : List Int} (h : IsHead d s a body m) (h' : IsHead d s a body m') : m = m' := by
  obtain ⟨cs, ca, cb, h1, h2, h3, rfl⟩ := h
  obtain ⟨cs', ca', cb', k1, k2, k3, rfl⟩ := h'
  rw [h1.bytes k1, h2.bytes k2, h3.bytes k3]
theorem IsHead.inj {d d' : Bool} {s s' a a' : Int} {body body' m : List Int} (h : IsHead d s a body m) (h' : IsHead d' s' a' body' m) : d = d' ∧ s.toNat = s'.toNat ∧ a.toNat = a'.toNat ∧ body = body' := by
  obtain ⟨cs, ca, cb, h1, h2, h3, rfl⟩ := h
  obtain ⟨cs', ca', cb', k1, k2, k3, e⟩ := h'
  have e' := List.cons.inj e
  have hd : d = d' := by
    have := e'.1
    cases d <;> cases d' <;> simp at this ⊢
  obtain ⟨q1, r1⟩ := code_split h1 k1 e'.2
  obtain ⟨q2, r2⟩ := code_split h2 k2 r1
  obtain ⟨_, r3⟩ := code_split h3 k3 r2
  exact ⟨hd, q1, q2, r3⟩
theorem IsEnc.unique {d : Bool} {s a : Int} {body ys ys' : List Int} (h : IsEnc d s a body ys) (h' : IsEnc d s a body ys') : ys = ys' := by
  obtain ⟨m, h1, rfl⟩ := h
  obtain ⟨m', h2, rfl⟩ := h'
  rw [h1.unique h2]
theorem enc_split {m m' : List Int} {s t : Nat} (e : m ++ be4 s = m' ++ be4 t) : m = m' ∧ be4 s = be4 t := List.append_inj' e rfl
theorem IsEnc.inj {d d' : Bool} {s s' a a' : Int} {body body' ys : List Int} (h : IsEnc d s a body ys) (h' : IsEnc d' s' a' body' ys) (hr : rightFr d s a body.length = true) (hr' : rightFr d' s' a' body'.length = true) : d = d' ∧ s = s' ∧ a = a' ∧ body = body' := by
  obtain ⟨m, h1, rfl⟩ := h
  obtain ⟨m', h2, e⟩ := h'
  obtain ⟨rfl, _⟩ := enc_split e
  obtain ⟨q1, q2, q3, q4⟩ := h1.inj h2
  obtain ⟨x1, _, x3, _⟩ := (rightFr_iff _ _ _ _).1 hr
  obtain ⟨y1, _, y3, _⟩ := (rightFr_iff _ _ _ _).1 hr'
  exact ⟨q1, by omega, by omega, q4⟩
theorem IsHead.digs {d : Bool} {s a : Int} {body m : List Int} (h : IsHead d s a body m) (hb : Digs 256 body) : Digs 256 m := by
  obtain ⟨cs, ca, cb, h1, h2, h3, rfl⟩ := h
  intro x hx
  rcases List.mem_cons.1 hx with e | e
  · cases d <;> simp at e <;> omega
  rcases List.mem_append.1 e with e | e
  · exact h1.digs x e
  rcases List.mem_append.1 e with e | e
  · exact h2.digs x e
  rcases List.mem_append.1 e with e | e
  · exact h3.digs x e
  · exact hb x e
theorem IsEnc.digs {d : Bool} {s a : Int} {body ys : List Int} (h : IsEnc d s a body ys) (hb : Digs 256 body) : Digs 256 ys := by
  obtain ⟨m, h1, rfl⟩ := h
  intro x hx
  rcases List.mem_append.1 hx with e | e
  · exact h1.digs hb x e
  · exact be4_digs _ x e
theorem IsHead.len {d : Bool} {s a : Int} {body m : List Int} (h : IsHead d s a body m) (hr : rightFr d s a body.length = true) : m.length ≤ body.length + 31 ∧ 4 ≤ m.length := by
  obtain ⟨x1, x2, x3, x4, x5, _⟩ := (rightFr_iff _ _ _ _).1 hr
  obtain ⟨cs, ca, cb, h1, h2, h3, rfl⟩ := h
  have l1 := code_10 h1 (by omega)
  have l2 := code_10 h2 (by omega)
  have l3 := code_10 h3 (by omega)
  have n1 := List.length_pos_iff.2 h1.nonempty
  have n2 := List.length_pos_iff.2 h2.nonempty
  have n3 := List.length_pos_iff.2 h3.nonempty
  simp
  omega

/-- What is told of a frame's bytes. -/
def ResEnc (d : Bool) (s a : Int) (body ys : List Int) (err : Int) : Prop := (rightFr d s a body.length = true ∧ IsEnc d s a body ys ∧ err = 0) ∨ (rightFr d s a body.length = false ∧ ys = [] ∧ err = 1)
theorem ResEnc.unique {d : Bool} {s a : Int} {body ys ys' : List Int} {err err' : Int} (h : ResEnc d s a body ys err) (h' : ResEnc d s a body ys' err') : ys = ys' ∧ err = err' := by
  rcases h with ⟨h1, h2, rfl⟩ | ⟨h1, rfl, rfl⟩ <;> rcases h' with ⟨k1, k2, rfl⟩ | ⟨k1, rfl, rfl⟩
  · exact ⟨h2.unique k2, rfl⟩
  · rw [h1] at k1; cases k1
  · rw [h1] at k1; cases k1
  · exact ⟨rfl, rfl⟩
/-- What is told of the frame that bytes are. -/
def ResDecF (L : List Int) (d : Bool) (s a : Int) (body : List Int) (err : Int) : Prop :=
  (rightFr d s a body.length = true ∧ IsEnc d s a body L ∧ err = 0) ∨ ((∀ d s a body, rightFr d s a body.length = true → ¬ IsEnc d s a body L) ∧ (d = false ∧ s = 0 ∧ a = 0 ∧ body = []) ∧ err = 14)
theorem ResDecF.unique {L : List Int} {d d' : Bool} {s s' a a' : Int} {body body' : List Int} {err err' : Int} (h : ResDecF L d s a body err) (h' : ResDecF L d' s' a' body' err') : (d = d' ∧ s = s' ∧ a = a' ∧ body = body') ∧ err = err' := by
  rcases h with ⟨h1, h2, rfl⟩ | ⟨h1, ⟨rfl, rfl, rfl, rfl⟩, rfl⟩ <;> rcases h' with ⟨k1, k2, rfl⟩ | ⟨k1, ⟨rfl, rfl, rfl, rfl⟩, rfl⟩
  · exact ⟨h2.inj k2 h1 k1, rfl⟩
  · exact absurd h2 (k1 _ _ _ _ h1)
  · exact absurd k2 (h1 _ _ _ _ k1)
  · exact ⟨⟨rfl, rfl, rfl, rfl⟩, rfl⟩
/-- One byte of a frame's is another one: it is no frame's. -/
theorem enc_turned {d d' : Bool} {s s' a a' : Int} {body body' xs ys : List Int} {x y : Int} (h : IsEnc d s a body (xs ++ x :: ys)) (h' : IsEnc d' s' a' body' (xs ++ y :: ys)) (hb : Digs 256 body) (hb' : Digs 256 body') : x = y := by
  have dg := h.digs hb
  have dg' := h'.digs hb'
  have hx : 0 ≤ x ∧ x < 256 := dg x (by simp)
  have hy : 0 ≤ y ∧ y < 256 := dg' y (by simp)
  have dxs : Digs 256 xs := fun z hz => dg z (by simp [hz])
  have dys : Digs 256 ys := fun z hz => dg z (by simp [hz])
  obtain ⟨m, h1, e⟩ := h
  obtain ⟨m', h2, e'⟩ := h'
  have dm := h1.digs hb
  have dm' := h2.digs hb'
  have l1 : (xs ++ x :: ys).length = m.length + 4 := by rw [e]; simp [be4]
  have l2 : (xs ++ y :: ys).length = m'.length + 4 := by rw [e']; simp [be4]
  have hlen : m.length = m'.length := by simp at l1 l2; omega
  by_cases c : xs.length < m.length
  · -- the byte lies ahead of the sum
    obtain ⟨t, ht⟩ : ∃ t, m = xs ++ x :: t ∧ ys = t ++ be4 (sumC m) := by
      have h3 : xs <+: m := by
        have p1 : xs <+: m ++ be4 (sumC m) := by rw [← e]; exact List.prefix_append _ _
        exact List.prefix_of_prefix_length_le p1 (List.prefix_append _ _) (by omega)
      obtain ⟨u, rfl⟩ := h3
      rw [List.append_assoc] at e
      have e2 := List.append_cancel_left e
      cases u with
      | nil => simp at c
      | cons z u =>
        have e3 := List.cons.inj e2
        exact ⟨u, by rw [e3.1], e3.2⟩
    obtain ⟨hm, hys⟩ := ht
    have e4 : m' ++ be4 (sumC m') = (xs ++ y :: t) ++ be4 (sumC m) := by rw [← e', hys]; simp
    obtain ⟨hm', hs⟩ := enc_split e4
    have hs2 := be4_inj (sumC_lt dm') (sumC_lt dm) hs
    rw [hm, hm'] at hs2
    have dt : Digs 256 t := fun z hz => dm z (by rw [hm]; simp [hz])
    exact (sumC_turned dxs dt hy hx hs2).symm
  · -- the byte lies in the sum
    have hmm : m = m' := by
      have p1 : m <+: xs := by
        have q1 : m <+: xs ++ x :: ys := by rw [e]; exact List.prefix_append _ _
        exact List.prefix_of_prefix_length_le q1 (List.prefix_append _ _) (by omega)
      have p2 : m' <+: xs := by
        have q1 : m' <+: xs ++ y :: ys := by rw [e']; exact List.prefix_append _ _
        exact List.prefix_of_prefix_length_le q1 (List.prefix_append _ _) (by omega)
      obtain ⟨u, hu⟩ := p1
      obtain ⟨u', hu'⟩ := p2
      exact (List.append_inj (hu.trans hu'.symm) hlen).1
    subst hmm
    have := e.trans e'.symm
    have := List.append_cancel_left this
    exact (List.cons.inj this).1
end Go.Proofs.Ytnbdbahfekneoab

namespace Go.Proofs.Ytnbdbahfekneoab
open Go.RowKit

theorem read_num {c R : List Int} {n most : Nat} (h : IsCode c n) (hn : n < 18446744073709551616) (hm : n ≤ most) : ResNum (c ++ R) most n 0 R :=
  ⟨n, c.length, NextT.of_code h hn, .inr ⟨fun e => by
    rcases e with e | e
    · exact h.nonempty (List.eq_nil_of_length_eq_zero e)
    · omega, rfl, rfl, by simp⟩⟩
theorem read_byt {c bs : List Int} {most : Int} (h : IsCode c bs.length) (hn : bs.length < 18446744073709551616) (hm : (bs.length : Int) ≤ most) : ResBytR (c ++ bs) most bs 0 [] :=
  ⟨bs.length, c.length, NextT.of_code h hn, .inr ⟨fun e => by
    rcases e with e | e | e | e
    · exact h.nonempty (List.eq_nil_of_length_eq_zero e)
    · omega
    · omega
    · simp at e, by simp, rfl, by simp⟩⟩
theorem ResNum.le {L : List Int} {most n : Nat} {err : Int} {R : List Int} (h : ResNum L most n err R) : n ≤ most := by
  obtain ⟨m, k, h1, h2⟩ := h
  rcases h2 with ⟨c, rfl, rfl, rfl⟩ | ⟨c, rfl, rfl, rfl⟩ <;> omega
/-- What stands between the first byte and the sum. -/
def midL (L : List Int) : List Int := (L.take (L.length - 4)).drop 1
theorem mid_of {m : List Int} {s : Nat} : midL (m ++ be4 s) = m.drop 1 := by
  unfold midL
  rw [show (m ++ be4 s).length - 4 = m.length by simp [be4], List.take_left]
/-- The readings of a frame's bytes tell the frame. -/
theorem dec_all {d : Bool} {s a : Int} {body L : List Int} (h : IsEnc d s a body L) (hr : rightFr d s a body.length = true) {n n2 : Nat} {e e2 e3 : Int} {R1 R2 R3 ys : List Int} (h1 : ResNum (midL L) 1073741824 n e R1) (h2 : ResNum R1 1073741824 n2 e2 R2) (h3 : ResBytR R2 1048576 ys e3 R3) :
    ((n : Int) = s ∧ (n2 : Int) = a ∧ ys = body) ∧ (e = 0 ∧ e2 = 0 ∧ e3 = 0) ∧ R3 = [] := by
  obtain ⟨x1, x2, x3, x4, x5, _⟩ := (rightFr_iff _ _ _ _).1 hr
  obtain ⟨m, ⟨cs, ca, cb, k1, k2, k3, hm⟩, rfl⟩ := h
  rw [mid_of, hm] at h1
  obtain ⟨rfl, rfl, rfl⟩ := h1.unique (read_num (R := ca ++ (cb ++ body)) k1 (by omega) (by omega))
  obtain ⟨rfl, rfl, rfl⟩ := h2.unique (read_num (R := cb ++ body) k2 (by omega) (by omega))
  obtain ⟨rfl, rfl, rfl⟩ := h3.unique (read_byt k3 (by omega) (by omega))
  exact ⟨⟨by omega, by omega, rfl⟩, ⟨rfl, rfl, rfl⟩, rfl⟩
theorem dec_first {d : Bool} {s a : Int} {body L : List Int} (h : IsEnc d s a body L) (hr : rightFr d s a body.length = true) : 8 ≤ L.length ∧ L.getD 0 0 = if d then 1 else 0 := by
  obtain ⟨m, h1, rfl⟩ := h
  have hl := (h1.len hr).2
  obtain ⟨cs, ca, cb, k1, k2, k3, rfl⟩ := h1
  exact ⟨by simp [be4] at hl ⊢; omega, by simp⟩
theorem first_eq {d : Bool} {x : Int} (h : x = if d then 1 else 0) : (x == 1) = d := by
  subst h
  cases d <;> rfl

/-- A frame's variable. -/
structure CellF (w : World) (g : Nat) (d : Bool) (s a : Int) (p : Option Addr) (l c : Nat) : Prop where
  c0 : w.cell? ⟨g, 0, none⟩ = some (.bool d)
  c1 : w.cell? ⟨g, 1, none⟩ = some (.int .i64 s)
  c2 : w.cell? ⟨g, 2, none⟩ = some (.int .i64 a)
  c3 : w.cell? ⟨g, 3, none⟩ = some (.slice p l c)
  f0 : w.frozen? ⟨g, 0, none⟩ = false
  f1 : w.frozen? ⟨g, 1, none⟩ = false
  f2 : w.frozen? ⟨g, 2, none⟩ = false
  f3 : w.frozen? ⟨g, 3, none⟩ = false
theorem CellF.lt {w : World} {g : Nat} {d : Bool} {s a : Int} {p : Option Addr} {l c : Nat} (h : CellF w g d s a p l c) : g < w.heap.size := World.block_lt_of_cell? _ _ h.c0
theorem CellF.below {w w' : World} {g : Nat} {d : Bool} {s a : Int} {p : Option Addr} {l c : Nat} (h : CellF w g d s a p l c) (hb : Below w.heap.size w w') : CellF w' g d s a p l c :=
  ⟨bkeep hb h.c0 rfl, bkeep hb h.c1 rfl, bkeep hb h.c2 rfl, bkeep hb h.c3 rfl, ((bcell hb).2 _ _ h.lt).trans h.f0, ((bcell hb).2 _ _ h.lt).trans h.f1, ((bcell hb).2 _ _ h.lt).trans h.f2, ((bcell hb).2 _ _ h.lt).trans h.f3⟩
theorem CellF.new (w : World) (d : Bool) (s a : Int) (p : Option Addr) (l c : Nat) : CellF (w.alloc (.cells #[.bool d, .int .i64 s, .int .i64 a, .slice p l c] 63)) w.heap.size d s a p l c :=
  ⟨by simp, by simp, by simp, by simp, by simp, by simp, by simp, by simp⟩
theorem Byts.put {w : World} {a : Option Addr} {n c : Nat} {zs : List Int} (h : Byts w a n c zs) {p : Addr} {x : Value} (hp : w.cell? p = some x) (hx : ∀ z, x ≠ .int .u8 z) (v : Value) : Byts (w.setCell p v) a n c zs := by
  refine ⟨h.hlen, h.hcap, h.hmax, fun h0 => ?_, h.word⟩
  obtain ⟨b, off, ha, hc⟩ := h.cells h0
  refine ⟨b, off, ha, fun i hi => ?_⟩
  rw [World.cell?_setCell_other]
  · exact hc i hi
  · rintro rfl
    have := hc i hi
    rw [hp] at this
    exact hx _ (Option.some.inj this)
/-- A frame is stored: no byte has turned. -/
theorem Byts.putF {w : World} {g : Nat} {d : Bool} {s a : Int} {p q : Option Addr} {l c n m : Nat} {zs : List Int} (h : CellF w g d s a p l c) (hn : Byts w q n m zs) (x y z u : Value) :
    Byts ((((w.setCell ⟨g, 0, none⟩ x).setCell ⟨g, 1, none⟩ y).setCell ⟨g, 2, none⟩ z).setCell ⟨g, 3, none⟩ u) q n m zs := by
  refine (((hn.put h.c0 (fun z => by simp) x).put (x := .int .i64 s) ?_ (fun z => by simp) y).put (x := .int .i64 a) ?_ (fun z => by simp) z).put (x := .slice p l c) ?_ (fun z => by simp) u
  · rw [World.cell?_setCell_other]
    · exact h.c1
    · simp
  · rw [World.cell?_setCell_other, World.cell?_setCell_other]
    · exact h.c2
    · simp
    · simp
  · rw [World.cell?_setCell_other, World.cell?_setCell_other, World.cell?_setCell_other]
    · exact h.c3
    · simp
    · simp
    · simp
theorem IsB.put {w : World} {b : Nat} (h : IsB w b) (g j : Nat) (x : Value) : IsB (w.setCell ⟨g, j, none⟩ x) b := by
  obtain ⟨cur, h⟩ := h
  by_cases e : b = g
  · subst e
    exact ⟨_, heap_setCell_same w b j _ _ x h⟩
  · exact ⟨cur, ((grown_set w g j x).block b (Array.getElem?_eq_some_iff.1 h).1 (by simpa using e)).trans h⟩
theorem IsBs.putF {w : World} {a : Option Addr} {l : Nat} (h : IsBs w a l) (g : Nat) (x y z u : Value) : IsBs ((((w.setCell ⟨g, 0, none⟩ x).setCell ⟨g, 1, none⟩ y).setCell ⟨g, 2, none⟩ z).setCell ⟨g, 3, none⟩ u) a l := fun ad e h0 => ((((h ad e h0).put g 0 x).put g 1 y).put g 2 z).put g 3 u
theorem putF_below {B : Nat} {a w : World} (h : Below B a w) {g : Nat} (hg : B ≤ g) (x y z u : Value) : Below B a ((((w.setCell ⟨g, 0, none⟩ x).setCell ⟨g, 1, none⟩ y).setCell ⟨g, 2, none⟩ z).setCell ⟨g, 3, none⟩ u) :=
  (((h.setCell (p := ⟨g, 0, none⟩) hg x).setCell (p := ⟨g, 1, none⟩) hg y).setCell (p := ⟨g, 2, none⟩) hg z).setCell (p := ⟨g, 3, none⟩) hg u
theorem strOf_list10 (bs : List Int) : (strOf bs).data.toList = bs.map (fun n => UInt8.ofNat n.toNat) := by
  have h : ∀ (bs : List Int) (r : ByteArray), (bs.foldl (fun r n => r.push (UInt8.ofNat n.toNat)) r).data.toList = r.data.toList ++ bs.map (fun n => UInt8.ofNat n.toNat) := by
    intro bs
    induction bs with
    | nil => intro r; simp
    | cons b bs ih =>
      intro r
      rw [List.foldl_cons, ih]
      simp [ByteArray.push]
  have := h bs ByteArray.empty
  simpa [strOf] using this
theorem strOf_inj {xs ys : List Int} (hx : Digs 256 xs) (hy : Digs 256 ys) (h : strOf xs = strOf ys) : xs = ys := by
  have h1 := congrArg (fun s => s.data.toList) h
  simp only [strOf_list10] at h1
  have hl := congrArg List.length h1
  simp at hl
  refine List.ext_getElem hl (fun i h2 h3 => ?_)
  have h4 := congrArg (fun l => l[i]?) h1
  simp [h2, h3] at h4
  have a1 := hx xs[i] (List.getElem_mem h2)
  have a2 := hy ys[i] (List.getElem_mem h3)
  have h5 := congrArg UInt8.toNat h4
  simp at h5
  omega
end Go.Proofs.Ytnbdbahfekneoab

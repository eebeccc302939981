/-
  What is told of public keys, plain texts, hiders and cipher texts, and of all that is reckoned with them.
-/
import Derived.Test.YtambpcgdaogojaaP6Math
import Derived.Test.YtambpcgdaogojaaMontB
import Derived.Test.YtambpcgdaogojaaByts
namespace Go.Proofs.Ytambpcgdaogojaa
open Go.RowKit

/-- The number of limbs. -/
def nv (zs : List Int) : Nat := (val 18446744073709551616 zs).toNat
theorem nv_val {zs : List Int} (hd : Digs 18446744073709551616 zs) : val 18446744073709551616 zs = (nv zs : Int) := (Int.toNat_of_nonneg (val_nonneg (by decide) hd)).symm
/-- The limbs are the number v. -/
def IsN (ls : List Int) (v : Nat) : Prop := Digs 18446744073709551616 ls ∧ rightB ls = true ∧ val 18446744073709551616 ls = (v : Int)
theorem IsN.unique {ls ks : List Int} {v : Nat} (h : IsN ls v) (h' : IsN ks v) : ls = ks :=
  val_inj (by decide) h.1 h'.1 (right_top h.2.1) (right_top h'.2.1) (h.2.2.trans h'.2.2.symm)
theorem IsN.nv {ls : List Int} {v : Nat} (h : IsN ls v) : Go.Proofs.Ytambpcgdaogojaa.nv ls = v := by unfold Go.Proofs.Ytambpcgdaogojaa.nv; rw [h.2.2]; simp
theorem IsN.self {ls : List Int} (hd : Digs 18446744073709551616 ls) (hr : rightB ls = true) : IsN ls (Go.Proofs.Ytambpcgdaogojaa.nv ls) := ⟨hd, hr, nv_val hd⟩
theorem IsN.of {x : Nat} (h : x < 18446744073709551616) : IsN (ofZ (x : Int)) x := by
  unfold ofZ
  split
  · rename_i e
    exact ⟨Digs.nil _, rfl, by simp [val]; omega⟩
  · refine ⟨fun y hy => ?_, ?_, ?_⟩
    · simp at hy; subst hy; omega
    · simp [rightB]; omega
    · simp [val]
theorem IsN.res {v : Nat} {ls : List Int} {e : Int} (h : Res (v : Int) ls e) (hv : (v : Int) < 18446744073709551616 ^ 64) : IsN ls v ∧ e = 0 := by
  rcases h with ⟨rfl, hd, ht, hl, e⟩ | ⟨_, _, zs, hd, ht, e, hl⟩
  · exact ⟨⟨hd, right_mk hl ht, e⟩, rfl⟩
  · have := len_le (B := 18446744073709551616) (by decide) hd ht (k := 64) (by rw [e]; exact hv)
    omega
theorem IsN.pos {ls : List Int} {v : Nat} (h : IsN ls v) (hv : 0 < v) : 0 < ls.length := by
  rcases Nat.eq_zero_or_pos ls.length with e | e
  · have := List.eq_nil_of_length_eq_zero e
    subst this
    have := h.2.2
    simp [val] at this
    omega
  · exact e
theorem IsN.len {ls : List Int} {v k : Nat} (h : IsN ls v) (hv : (v : Int) < 18446744073709551616 ^ k) : ls.length ≤ k :=
  len_le (B := 18446744073709551616) (by decide) h.1 (right_top h.2.1) (by rw [h.2.2]; exact hv)
theorem nums_some {w : World} {a : Option Addr} {l c : Nat} {ls : List Int} (h : Nums w a l c ls) (hp : 0 < ls.length) : a = none → c = 0 := fun e => by
  obtain ⟨b, o, e', _⟩ := h.cells (by rw [← h.hlen]; exact hp)
  rw [e] at e'
  cases e'

/-- n may be a public key. -/
def mayN (n : Nat) : Bool := decide (n % 2 = 1) && (decide (16384 ≤ n) && decide (n < 1208925819614629174706176))
def pubB (ns : List Int) : Bool := rightB ns && mayN (nv ns)
/-- c is above 0 and below b, and has no divisor in common with n. -/
def unitN (c n b : Nat) : Bool := decide (0 < c) && (decide (c < b) && decide (Nat.gcd c n = 1))
def unitB (cs ns : List Int) (b : Nat) : Bool := rightB cs && unitN (nv cs) (nv ns) b
/-- c is a cipher text of n. -/
def validB (ns cs : List Int) : Bool := pubB ns && unitB cs ns (nv ns * nv ns)
/-- m is a plain text of n. -/
def plainB (ns ms : List Int) : Bool := rightB ms && decide (nv ms < nv ns)

theorem mayN_iff (n : Nat) : mayN n = true ↔ n % 2 = 1 ∧ 16384 ≤ n ∧ n < 1208925819614629174706176 := by simp [mayN]
theorem pubB_iff (ns : List Int) : pubB ns = true ↔ rightB ns = true ∧ nv ns % 2 = 1 ∧ 16384 ≤ nv ns ∧ nv ns < 1208925819614629174706176 := by simp [pubB, mayN]
theorem unitB_iff (cs ns : List Int) (b : Nat) : unitB cs ns b = true ↔ rightB cs = true ∧ 0 < nv cs ∧ nv cs < b ∧ Nat.gcd (nv cs) (nv ns) = 1 := by simp [unitB, unitN]
theorem validB_iff (ns cs : List Int) : validB ns cs = true ↔ pubB ns = true ∧ rightB cs = true ∧ 0 < nv cs ∧ nv cs < nv ns * nv ns ∧ Nat.gcd (nv cs) (nv ns) = 1 := by
  unfold validB; rw [Bool.and_eq_true, unitB_iff]
theorem plainB_iff (ns ms : List Int) : plainB ns ms = true ↔ rightB ms = true ∧ nv ms < nv ns := by simp [plainB]
theorem KeyOk.may {P Q : Nat} (h : KeyOk P Q) : mayN (P * Q) = true := by
  obtain ⟨_, _, _, _, h1, h2, h3⟩ := h.facts
  exact (mayN_iff _).2 ⟨h3, h1, h2⟩

/-- What is told: a fault's number, or a number. -/
def Told (f : Option Int) (v : Nat) (ls : List Int) (err : Int) : Prop := (∃ e, f = some e ∧ ls = [] ∧ err = e) ∨ (f = none ∧ IsN ls v ∧ err = 0)
theorem Told.unique {f : Option Int} {v : Nat} {ls ks : List Int} {e e' : Int} (h : Told f v ls e) (h' : Told f v ks e') : ls = ks ∧ e = e' := by
  rcases h with ⟨x, rfl, rfl, rfl⟩ | ⟨rfl, h, rfl⟩ <;> rcases h' with ⟨y, hy, rfl, rfl⟩ | ⟨hy, h', rfl⟩
  · cases hy; exact ⟨rfl, rfl⟩
  · cases hy
  · cases hy
  · exact ⟨h.unique h', rfl⟩
theorem Told.bad {f : Option Int} {v : Nat} {e : Int} (h : f = some e) : Told f v [] e := .inl ⟨e, h, rfl, rfl⟩
theorem Told.good {f : Option Int} {v : Nat} {ls : List Int} (h : f = none) (h' : IsN ls v) : Told f v ls 0 := .inr ⟨h, h', rfl⟩
theorem Told.ok {f : Option Int} {v : Nat} {ls : List Int} (h : Told f v ls 0) (hf : f ≠ some 0) : f = none ∧ IsN ls v := by
  rcases h with ⟨x, h, _, rfl⟩ | ⟨h, h', _⟩
  · exact absurd h hf
  · exact ⟨h, h'⟩

/-- The faults that are told, in their order. -/
def encF (ns ms rs : List Int) : Option Int := if pubB ns then (if plainB ns ms then (if unitB rs ns (nv ns) then none else some 1) else some 10) else some 1
def addF (ns cs ds : List Int) : Option Int := if pubB ns then (if validB ns cs && validB ns ds then none else some 11) else some 1
def plainF (ns cs ms : List Int) : Option Int := if pubB ns then (if validB ns cs then (if plainB ns ms then none else some 10) else some 11) else some 1
def againF (ns cs rs : List Int) : Option Int := if pubB ns then (if validB ns cs then (if unitB rs ns (nv ns) then none else some 1) else some 11) else some 1

def encV (ns ms rs : List Int) : Nat := (1 + nv ns * nv ms) * nv rs ^ nv ns % (nv ns * nv ns)
def addV (ns cs ds : List Int) : Nat := nv cs * nv ds % (nv ns * nv ns)
def plainV (ns cs ms : List Int) : Nat := nv cs * (1 + nv ns * nv ms) % (nv ns * nv ns)
def scaleV (ns cs ks : List Int) : Nat := nv cs ^ nv ks % (nv ns * nv ns)
def againV (ns cs rs : List Int) : Nat := nv cs * nv rs ^ nv ns % (nv ns * nv ns)

/-- What is told of a key's public part. -/
def ResPub (P Q : Nat) (ls : List Int) (err : Int) : Prop := (KeyOk P Q ∧ IsN ls (P * Q) ∧ err = 0) ∨ (¬ KeyOk P Q ∧ ls = [] ∧ err = 9)
theorem ResPub.unique {P Q : Nat} {ls ks : List Int} {e f : Int} (h : ResPub P Q ls e) (h' : ResPub P Q ks f) : ls = ks ∧ e = f := by
  rcases h with ⟨a, h, rfl⟩ | ⟨a, rfl, rfl⟩ <;> rcases h' with ⟨b, h', rfl⟩ | ⟨b, rfl, rfl⟩
  · exact ⟨h.unique h', rfl⟩
  · exact absurd a b
  · exact absurd b a
  · exact ⟨rfl, rfl⟩
/-- c is a cipher text of a key. -/
def cipherB (P Q : Nat) (cs : List Int) : Bool := rightB cs && unitN (nv cs) (P * Q) (P * Q * (P * Q))
theorem cipherB_iff (P Q : Nat) (cs : List Int) : cipherB P Q cs = true ↔ rightB cs = true ∧ 0 < nv cs ∧ nv cs < P * Q * (P * Q) ∧ Nat.gcd (nv cs) (P * Q) = 1 := by simp [cipherB, unitN]
theorem valid_cipher {P Q : Nat} {ns cs : List Int} (hK : KeyOk P Q) (hn : IsN ns (P * Q)) : validB ns cs = cipherB P Q cs := by
  unfold validB pubB unitB cipherB
  rw [hn.nv, hn.2.1, hK.may]; rfl
/-- What is told of what a cipher text hides. -/
def ResDec (P Q : Nat) (cs ls : List Int) (err : Int) : Prop :=
  (KeyOk P Q ∧ cipherB P Q cs = true ∧ err = 0 ∧ ∃ x, Dec (P * Q) ((P - 1) * (Q - 1)) (nv cs) x ∧ IsN ls x) ∨ (KeyOk P Q ∧ cipherB P Q cs = false ∧ err = 11 ∧ ls = []) ∨ (¬ KeyOk P Q ∧ err = 9 ∧ ls = [])
theorem ResDec.unique {P Q : Nat} {cs ls ks : List Int} {e f : Int} (h : ResDec P Q cs ls e) (h' : ResDec P Q cs ks f) : ls = ks ∧ e = f := by
  rcases h with ⟨a, b, rfl, x, hx, h⟩ | ⟨a, b, rfl, rfl⟩ | ⟨a, rfl, rfl⟩ <;> rcases h' with ⟨a', b', rfl, y, hy, h'⟩ | ⟨a', b', rfl, rfl⟩ | ⟨a', rfl, rfl⟩
  · obtain rfl := hx.unique a.facts.2.2.2.1 hy
    exact ⟨h.unique h', rfl⟩
  · rw [b] at b'; cases b'
  · exact absurd a a'
  · rw [b] at b'; cases b'
  · exact ⟨rfl, rfl⟩
  · exact absurd a a'
  · exact absurd a' a
  · exact absurd a' a
  · exact ⟨rfl, rfl⟩

/-- What a call that tells a number or a fault makes. -/
def TripT (f : Option Int) (v : Nat) (w : World) (e : Ending) (w' : World) : Prop := ∃ a l c ls err, e = .returned (.tuple #[.slice a l c, .int .i64 err]) ∧ Nums w' a l c ls ∧ Told f v ls err ∧ Below w.heap.size w w'
/-- What is told of a key's public part, as it lies in memory. -/
def PubT (P Q : Nat) (w : World) (e : Ending) (w' : World) : Prop := ∃ a l c ls err, e = .returned (.tuple #[.slice a l c, .int .i64 err]) ∧ Nums w' a l c ls ∧ ResPub P Q ls err ∧ Below w.heap.size w w'
/-- What is told of what a cipher text hides, as it lies in memory. -/
def DecT (P Q : Nat) (cs : List Int) (w : World) (e : Ending) (w' : World) : Prop := ∃ a l c ls err, e = .returned (.tuple #[.slice a l c, .int .i64 err]) ∧ Nums w' a l c ls ∧ ResDec P Q cs ls err ∧ Below w.heap.size w w'

/-- The faults are not 0. -/
theorem encF_ne {ns ms rs : List Int} : encF ns ms rs ≠ some 0 := by unfold encF; split <;> (try split) <;> (try split) <;> simp
theorem addF_ne {ns cs ds : List Int} : addF ns cs ds ≠ some 0 := by unfold addF; split <;> (try split) <;> simp
theorem plainF_ne {ns cs ms : List Int} : plainF ns cs ms ≠ some 0 := by unfold plainF; split <;> (try split) <;> (try split) <;> simp
theorem againF_ne {ns cs rs : List Int} : againF ns cs rs ≠ some 0 := by unfold againF; split <;> (try split) <;> (try split) <;> simp

/-- How many bits a number has, and how great it is. -/
theorem bits_15 {ns : List Int} (hd : Digs 18446744073709551616 ns) (hr : rightB ns = true) : (15 : Int) ≤ bitsZ ns ↔ 16384 ≤ nv ns := by
  obtain ⟨h0, _, h1⟩ := bits_lt hd hr (nv_val hd)
  constructor
  · intro h
    have hl : ns.length ≠ 0 := fun e => by
      have := List.eq_nil_of_length_eq_zero e
      subst this
      simp [bitsZ] at h
    obtain ⟨_, h2⟩ := bits_ge hd hr (nv_val hd) hl
    have h3 : 2 ^ 14 ≤ 2 ^ ((bitsZ ns).toNat - 1) := Nat.pow_le_pow_right (by omega) (by omega)
    omega
  · intro h
    rcases Int.lt_or_le (bitsZ ns) 15 with e | e
    · have h3 : 2 ^ (bitsZ ns).toNat ≤ 2 ^ 14 := Nat.pow_le_pow_right (by omega) (by omega)
      omega
    · exact e
theorem bits_80 {ns : List Int} (hd : Digs 18446744073709551616 ns) (hr : rightB ns = true) : bitsZ ns ≤ (80 : Int) ↔ nv ns < 1208925819614629174706176 := by
  obtain ⟨h0, _, h1⟩ := bits_lt hd hr (nv_val hd)
  constructor
  · intro h
    have h3 : 2 ^ (bitsZ ns).toNat ≤ 2 ^ 80 := Nat.pow_le_pow_right (by omega) (by omega)
    omega
  · intro h
    rcases Int.lt_or_le 80 (bitsZ ns) with e | e
    · have hl : ns.length ≠ 0 := fun e' => by
        have := List.eq_nil_of_length_eq_zero e'
        subst this
        simp [bitsZ] at e
      obtain ⟨_, h2⟩ := bits_ge hd hr (nv_val hd) hl
      have h3 : 2 ^ 80 ≤ 2 ^ ((bitsZ ns).toNat - 1) := Nat.pow_le_pow_right (by omega) (by omega)
      omega
    · exact e
theorem nv_odd {ns : List Int} (hd : Digs 18446744073709551616 ns) : ns.getD 0 0 % 2 = ((nv ns % 2 : Nat) : Int) := by
  have h := nv_val hd
  cases ns with
  | nil => simp [val] at h ⊢; omega
  | cons x r => simp [val] at h ⊢; omega

/-- n times n is a modulus. -/
theorem sq_bd3 {n : Nat} (h : n < 1208925819614629174706176) : ((n * n : Nat) : Int) < 18446744073709551616 ^ 3 := by
  have h1 : n * n < 1208925819614629174706176 * 1208925819614629174706176 := Nat.mul_lt_mul'' h h
  have e : (18446744073709551616 : Int) ^ 3 = 6277101735386680763835789423207666416102355444464034512896 := by decide
  omega
theorem sq_mod {n : Nat} {ss : List Int} (h : mayN n = true) (hs : IsN ss (n * n)) : ModOk ss := by
  obtain ⟨h1, h2, h3⟩ := (mayN_iff n).1 h
  have hb := Nat.mul_le_mul h2 h2
  refine ⟨hs.2.1, ⟨hs.pos (by omega), Nat.le_trans (hs.len (sq_bd3 h3)) (by decide)⟩, ?_, ?_⟩
  · rw [hs.2.2]
    have : n * n % 2 = 1 := by rw [Nat.mul_mod, h1]
    omega
  · rw [hs.2.2]; omega
theorem n_mod {n : Nat} {ns : List Int} (h : mayN n = true) (hs : IsN ns n) : ModOk ns := by
  obtain ⟨h1, h2, h3⟩ := (mayN_iff n).1 h
  have e : (18446744073709551616 : Int) ^ 2 = 340282366920938463463374607431768211456 := by decide
  refine ⟨hs.2.1, ⟨hs.pos (by omega), Nat.le_trans (hs.len (k := 2) (by omega)) (by decide)⟩, ?_, ?_⟩
  · rw [hs.2.2]; omega
  · rw [hs.2.2]; omega
end Go.Proofs.Ytambpcgdaogojaa

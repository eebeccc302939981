/-
  The contract of stage 6's few, for one list of limbs up to four.
  What is told of public keys, plain texts, hiders and cipher texts, and of all that is reckoned with them.
  What stage 6's laws ask of the program's functions; the contract of awake.
  What is told of a number hidden behind one from a tape.
  What was hidden is told; sums go through: of a key's cipher texts.
-/
import Derived.Test.YtchmlfjjgehbkaaNatA
import Derived.Test.YtchmlfjjgehbkaaArA
import Derived.Test.YtchmlfjjgehbkaaMontB
import Derived.Test.YtchmlfjjgehbkaaBytA
import Derived.Test.YtchmlfjjgehbkaaModA
namespace Go.Proofs.Ytchmlfjjgehbkaa
open Go.RowKit

end Go.Proofs.Ytchmlfjjgehbkaa

namespace Go.Proofs.Ytchmlfjjgehbkaa
open Go.RowKit

/-- The number of limbs. -/
def nv (zs : List Int) : Nat := (val 18446744073709551616 zs).toNat
theorem nv_val {zs : List Int} (hd : Digs 18446744073709551616 zs) : val 18446744073709551616 zs = (nv zs : Int) := (Int.toNat_of_nonneg (val_nonneg (by decide) hd)).symm
/-- The limbs are the number v. -/
def IsN (ls : List Int) (v : Nat) : Prop := Digs 18446744073709551616 ls ∧ rightB ls = true ∧ val 18446744073709551616 ls = (v : Int)
theorem IsN.unique {ls ks : List Int} {v : Nat} (h : IsN ls v) (h' : IsN ks v) : ls = ks :=
  val_inj (by decide) h.1 h'.1 (right_top h.2.1) (right_top h'.2.1) (h.2.2.trans h'.2.2.symm)
theorem IsN.nv {ls : List Int} {v : Nat} (h : IsN ls v) : Go.Proofs.Ytchmlfjjgehbkaa.nv ls = v := by unfold Go.Proofs.Ytchmlfjjgehbkaa.nv; rw [h.2.2]; simp
theorem IsN.self {ls : List Int} (hd : Digs 18446744073709551616 ls) (hr : rightB ls = true) : IsN ls (Go.Proofs.Ytchmlfjjgehbkaa.nv ls) := ⟨hd, hr, nv_val hd⟩
theorem IsN.of {x : Nat} (h : x < 18446744073709551616) : IsN (ofZ (x : Int)) x := by
  unfold ofZ
  split
  · rename_i e
    exact ⟨Digs.nil _, rfl, by simp [val]; omega⟩
  · refine ⟨fun y hy => ?_, ?_, ?_⟩
    · simp at hy; subst hy; omega
    · simp [rightB]; omega
    · simp [val]
theorem IsN.res {v : Nat} {ls : List Int} {e : Int} (h : Res (v : Int) ls e) (hv : (v : Int) < 18446744073709551616 ^ 64) : IsN ls v ∧ e = 0 := by
  rcases h with ⟨rfl, hd, ht, hl, e⟩ | ⟨_, _, zs, hd, ht, e, hl⟩
  · exact ⟨⟨hd, right_mk hl ht, e⟩, rfl⟩
  · have := len_le (B := 18446744073709551616) (by decide) hd ht (k := 64) (by rw [e]; exact hv)
    omega
theorem IsN.pos {ls : List Int} {v : Nat} (h : IsN ls v) (hv : 0 < v) : 0 < ls.length := by
  rcases Nat.eq_zero_or_pos ls.length with e | e
  · have := List.eq_nil_of_length_eq_zero e
    subst this
    have := h.2.2
    simp [val] at this
    omega
  · exact e
theorem IsN.len {ls : List Int} {v k : Nat} (h : IsN ls v) (hv : (v : Int) < 18446744073709551616 ^ k) : ls.length ≤ k :=
  len_le (B := 18446744073709551616) (by decide) h.1 (right_top h.2.1) (by rw [h.2.2]; exact hv)
theorem nums_some {w : World} {a : Option Addr} {l c : Nat} {ls : List Int} (h : Nums w a l c ls) (hp : 0 < ls.length) : a = none → c = 0 := fun e => by
  obtain ⟨b, o, e', _⟩ := h.cells (by rw [← h.hlen]; exact hp)
  rw [e] at e'
  cases e'

/-- n may be a public key. -/
def mayN (n : Nat) : Bool := decide (n % 2 = 1) && (decide (16384 ≤ n) && decide (n < 1208925819614629174706176))
def pubB (ns : List Int) : Bool := rightB ns && mayN (nv ns)
/-- c is above 0 and below b, and has no divisor in common with n. -/
def unitN (c n b : Nat) : Bool := decide (0 < c) && (decide (c < b) && decide (Nat.gcd c n = 1))
def unitB (cs ns : List Int) (b : Nat) : Bool := rightB cs && unitN (nv cs) (nv ns) b
/-- c is a cipher text of n. -/
def validB (ns cs : List Int) : Bool := pubB ns && unitB cs ns (nv ns * nv ns)
/-- m is a plain text of n. -/
def plainB (ns ms : List Int) : Bool := rightB ms && decide (nv ms < nv ns)

theorem mayN_iff (n : Nat) : mayN n = true ↔ n % 2 = 1 ∧ 16384 ≤ n ∧ n < 1208925819614629174706176 := by simp [mayN]
theorem pubB_iff (ns : List Int) : pubB ns = true ↔ rightB ns = true ∧ nv ns % 2 = 1 ∧ 16384 ≤ nv ns ∧ nv ns < 1208925819614629174706176 := by simp [pubB, mayN]
theorem unitB_iff (cs ns : List Int) (b : Nat) : unitB cs ns b = true ↔ rightB cs = true ∧ 0 < nv cs ∧ nv cs < b ∧ Nat.gcd (nv cs) (nv ns) = 1 := by simp [unitB, unitN]
theorem validB_iff (ns cs : List Int) : validB ns cs = true ↔ pubB ns = true ∧ rightB cs = true ∧ 0 < nv cs ∧ nv cs < nv ns * nv ns ∧ Nat.gcd (nv cs) (nv ns) = 1 := by
  unfold validB; rw [Bool.and_eq_true, unitB_iff]
theorem plainB_iff (ns ms : List Int) : plainB ns ms = true ↔ rightB ms = true ∧ nv ms < nv ns := by simp [plainB]
theorem KeyOk.may {P Q : Nat} (h : KeyOk P Q) : mayN (P * Q) = true := by
  obtain ⟨_, _, _, _, h1, h2, h3⟩ := h.facts
  exact (mayN_iff _).2 ⟨h3, h1, h2⟩

/-- What is told: a fault's number, or a number. -/
def Told (f : Option Int) (v : Nat) (ls : List Int) (err : Int) : Prop := (∃ e, f = some e ∧ ls = [] ∧ err = e) ∨ (f = none ∧ IsN ls v ∧ err = 0)
theorem Told.unique {f : Option Int} {v : Nat} {ls ks : List Int} {e e' : Int} (h : Told f v ls e) (h' : Told f v ks e') : ls = ks ∧ e = e' := by
  rcases h with ⟨x, rfl, rfl, rfl⟩ | ⟨rfl, h, rfl⟩ <;> rcases h' with ⟨y, hy, rfl, rfl⟩ | ⟨hy, h', rfl⟩
  · cases hy; exact ⟨rfl, rfl⟩
  · cases hy
  · cases hy
  · exact ⟨h.unique h', rfl⟩
theorem Told.bad {f : Option Int} {v : Nat} {e : Int} (h : f = some e) : Told f v [] e := .inl ⟨e, h, rfl, rfl⟩
theorem Told.good {f : Option Int} {v : Nat} {ls : List Int} (h : f = none) (h' : IsN ls v) : Told f v ls 0 := .inr ⟨h, h', rfl⟩
theorem Told.ok {f : Option Int} {v : Nat} {ls : List Int} (h : Told f v ls 0) (hf : f ≠ some 0) : f = none ∧ IsN ls v := by
  rcases h with ⟨x, h, _, rfl⟩ | ⟨h, h', _⟩
  · exact absurd h hf
  · exact ⟨h, h'⟩

/-- The faults that are told, in their order. -/
def encF (ns ms rs : List Int) : Option Int := if pubB ns then (if plainB ns ms then (if unitB rs ns (nv ns) then none else some 1) else some 10) else some 1
def addF (ns cs ds : List Int) : Option Int := if pubB ns then (if validB ns cs && validB ns ds then none else some 11) else some 1
def plainF (ns cs ms : List Int) : Option Int := if pubB ns then (if validB ns cs then (if plainB ns ms then none else some 10) else some 11) else some 1
def againF (ns cs rs : List Int) : Option Int := if pubB ns then (if validB ns cs then (if unitB rs ns (nv ns) then none else some 1) else some 11) else some 1

def encV (ns ms rs : List Int) : Nat := (1 + nv ns * nv ms) * nv rs ^ nv ns % (nv ns * nv ns)
def addV (ns cs ds : List Int) : Nat := nv cs * nv ds % (nv ns * nv ns)
def plainV (ns cs ms : List Int) : Nat := nv cs * (1 + nv ns * nv ms) % (nv ns * nv ns)
def scaleV (ns cs ks : List Int) : Nat := nv cs ^ nv ks % (nv ns * nv ns)
def againV (ns cs rs : List Int) : Nat := nv cs * nv rs ^ nv ns % (nv ns * nv ns)

/-- What is told of a key's public part. -/
def ResPub (P Q : Nat) (ls : List Int) (err : Int) : Prop := (KeyOk P Q ∧ IsN ls (P * Q) ∧ err = 0) ∨ (¬ KeyOk P Q ∧ ls = [] ∧ err = 9)
theorem ResPub.unique {P Q : Nat} {ls ks : List Int} {e f : Int} (h : ResPub P Q ls e) (h' : ResPub P Q ks f) : ls = ks ∧ e = f := by
  rcases h with ⟨a, h, rfl⟩ | ⟨a, rfl, rfl⟩ <;> rcases h' with ⟨b, h', rfl⟩ | ⟨b, rfl, rfl⟩
  · exact ⟨h.unique h', rfl⟩
  · exact absurd a b
  · exact absurd b a
  · exact ⟨rfl, rfl⟩
/-- c is a cipher text of a key. -/
def cipherB (P Q : Nat) (cs : List Int) : Bool := rightB cs && unitN (nv cs) (P * Q) (P * Q * (P * Q))
theorem cipherB_iff (P Q : Nat) (cs : List Int) : cipherB P Q cs = true ↔ rightB cs = true ∧ 0 < nv cs ∧ nv cs < P * Q * (P * Q) ∧ Nat.gcd (nv cs) (P * Q) = 1 := by simp [cipherB, unitN]
theorem valid_cipher {P Q : Nat} {ns cs : List Int} (hK : KeyOk P Q) (hn : IsN ns (P * Q)) : validB ns cs = cipherB P Q cs := by
  unfold validB pubB unitB cipherB
  rw [hn.nv, hn.2.1, hK.may]; rfl
/-- What is told of what a cipher text hides. -/
def ResDec (P Q : Nat) (cs ls : List Int) (err : Int) : Prop :=
  (KeyOk P Q ∧ cipherB P Q cs = true ∧ err = 0 ∧ ∃ x, Dec (P * Q) ((P - 1) * (Q - 1)) (nv cs) x ∧ IsN ls x) ∨ (KeyOk P Q ∧ cipherB P Q cs = false ∧ err = 11 ∧ ls = []) ∨ (¬ KeyOk P Q ∧ err = 9 ∧ ls = [])
theorem ResDec.unique {P Q : Nat} {cs ls ks : List Int} {e f : Int} (h : ResDec P Q cs ls e) (h' : ResDec P Q cs ks f) : ls = ks ∧ e = f := by
  rcases h with ⟨a, b, rfl, x, hx, h⟩ | ⟨a, b, rfl, rfl⟩ | ⟨a, rfl, rfl⟩ <;> rcases h' with ⟨a', b', rfl, y, hy, h'⟩ | ⟨a', b', rfl, rfl⟩ | ⟨a', rfl, rfl⟩
  · obtain rfl := hx.unique a.facts.2.2.2.1 hy
    exact ⟨h.unique h', rfl⟩
  · rw [b] at b'; cases b'
  · exact absurd a a'
  · rw [b] at b'; cases b'
  · exact ⟨rfl, rfl⟩
  · exact absurd a a'
  · exact absurd a' a
  · exact absurd a' a
  · exact ⟨rfl, rfl⟩

/-- What a call that tells a number or a fault makes. -/
def TripT (f : Option Int) (v : Nat) (w : World) (e : Ending) (w' : World) : Prop := ∃ a l c ls err, e = .returned (.tuple #[.slice a l c, .int .i64 err]) ∧ Nums w' a l c ls ∧ Told f v ls err ∧ Below w.heap.size w w'
/-- What is told of a key's public part, as it lies in memory. -/
def PubT (P Q : Nat) (w : World) (e : Ending) (w' : World) : Prop := ∃ a l c ls err, e = .returned (.tuple #[.slice a l c, .int .i64 err]) ∧ Nums w' a l c ls ∧ ResPub P Q ls err ∧ Below w.heap.size w w'
/-- What is told of what a cipher text hides, as it lies in memory. -/
def DecT (P Q : Nat) (cs : List Int) (w : World) (e : Ending) (w' : World) : Prop := ∃ a l c ls err, e = .returned (.tuple #[.slice a l c, .int .i64 err]) ∧ Nums w' a l c ls ∧ ResDec P Q cs ls err ∧ Below w.heap.size w w'

/-- The faults are not 0. -/
theorem encF_ne {ns ms rs : List Int} : encF ns ms rs ≠ some 0 := by unfold encF; split <;> (try split) <;> (try split) <;> simp
theorem addF_ne {ns cs ds : List Int} : addF ns cs ds ≠ some 0 := by unfold addF; split <;> (try split) <;> simp
theorem plainF_ne {ns cs ms : List Int} : plainF ns cs ms ≠ some 0 := by unfold plainF; split <;> (try split) <;> (try split) <;> simp
theorem againF_ne {ns cs rs : List Int} : againF ns cs rs ≠ some 0 := by unfold againF; split <;> (try split) <;> (try split) <;> simp

/-- How many bits a number has, and how great it is. -/
theorem bits_15 {ns : List Int} (hd : Digs 18446744073709551616 ns) (hr : rightB ns = true) : (15 : Int) ≤ bitsZ ns ↔ 16384 ≤ nv ns := by
  obtain ⟨h0, _, h1⟩ := bits_lt hd hr (nv_val hd)
  constructor
  · intro h
    have hl : ns.length ≠ 0 := fun e => by
      have := List.eq_nil_of_length_eq_zero e
      subst this
      simp [bitsZ] at h
    obtain ⟨_, h2⟩ := bits_ge hd hr (nv_val hd) hl
    have h3 : 2 ^ 14 ≤ 2 ^ ((bitsZ ns).toNat - 1) := Nat.pow_le_pow_right (by omega) (by omega)
    omega
  · intro h
    rcases Int.lt_or_le (bitsZ ns) 15 with e | e
    · have h3 : 2 ^ (bitsZ ns).toNat ≤ 2 ^ 14 := Nat.pow_le_pow_right (by omega) (by omega)
      omega
    · exact e
theorem bits_80 {ns : List Int} (hd : Digs 18446744073709551616 ns) (hr : rightB ns = true) : bitsZ ns ≤ (80 : Int) ↔ nv ns < 1208925819614629174706176 := by
  obtain ⟨h0, _, h1⟩ := bits_lt hd hr (nv_val hd)
  constructor
  · intro h
    have h3 : 2 ^ (bitsZ ns).toNat ≤ 2 ^ 80 := Nat.pow_le_pow_right (by omega) (by omega)
    omega
  · intro h
    rcases Int.lt_or_le 80 (bitsZ ns) with e | e
    · have hl : ns.length ≠ 0 := fun e' => by
        have := List.eq_nil_of_length_eq_zero e'
        subst this
        simp [bitsZ] at e
      obtain ⟨_, h2⟩ := bits_ge hd hr (nv_val hd) hl
      have h3 : 2 ^ 80 ≤ 2 ^ ((bitsZ ns).toNat - 1) := Nat.pow_le_pow_right (by omega) (by omega)
      omega
    · exact e
theorem nv_odd {ns : List Int} (hd : Digs 18446744073709551616 ns) : ns.getD 0 0 % 2 = ((nv ns % 2 : Nat) : Int) := by
  have h := nv_val hd
  cases ns with
  | nil => simp [val] at h ⊢; omega
  | cons x r => simp [val] at h ⊢; omega

/-- n times n is a modulus. -/
theorem sq_bd3 {n : Nat} (h : n < 1208925819614629174706176) : ((n * n : Nat) : Int) < 18446744073709551616 ^ 3 := by
  have h1 : n * n < 1208925819614629174706176 * 1208925819614629174706176 := Nat.mul_lt_mul'' h h
  have e : (18446744073709551616 : Int) ^ 3 = 6277101735386680763835789423207666416102355444464034512896 := by decide
  omega
theorem sq_mod {n : Nat} {ss : List Int} (h : mayN n = true) (hs : IsN ss (n * n)) : ModOk ss := by
  obtain ⟨h1, h2, h3⟩ := (mayN_iff n).1 h
  have hb := Nat.mul_le_mul h2 h2
  refine ⟨hs.2.1, ⟨hs.pos (by omega), Nat.le_trans (hs.len (sq_bd3 h3)) (by decide)⟩, ?_, ?_⟩
  · rw [hs.2.2]
    have : n * n % 2 = 1 := by rw [Nat.mul_mod, h1]
    omega
  · rw [hs.2.2]; omega
theorem n_mod {n : Nat} {ns : List Int} (h : mayN n = true) (hs : IsN ns n) : ModOk ns := by
  obtain ⟨h1, h2, h3⟩ := (mayN_iff n).1 h
  have e : (18446744073709551616 : Int) ^ 2 = 340282366920938463463374607431768211456 := by decide
  refine ⟨hs.2.1, ⟨hs.pos (by omega), Nat.le_trans (hs.len (k := 2) (by omega)) (by decide)⟩, ?_, ?_⟩
  · rw [hs.2.2]; omega
  · rw [hs.2.2]; omega
end Go.Proofs.Ytchmlfjjgehbkaa

namespace Go.Proofs.Ytchmlfjjgehbkaa
open Go.RowKit

end Go.Proofs.Ytchmlfjjgehbkaa

namespace Go.Proofs.Ytchmlfjjgehbkaa
open Go.RowKit

/-- So many draws are no hiders; the next one is, or the tape has ended. -/
def HideIn (ns : List Int) : Nat → List Int → List Int → Int → List Int → Prop
  | 0, L, rs, e, R => ResBelow ns L rs e R ∧ (e ≠ 0 ∨ unitB rs ns (nv ns) = true)
  | t + 1, L, rs, e, R => ∃ r1 R1, ResBelow ns L r1 0 R1 ∧ unitB r1 ns (nv ns) = false ∧ HideIn ns t R1 rs e R
def Hide (ns L rs : List Int) (e : Int) (R : List Int) : Prop := ∃ t, HideIn ns t L rs e R

theorem HideIn.unique {ns : List Int} : ∀ {t s : Nat} {L rs : List Int} {e : Int} {R ks : List Int} {f : Int} {S : List Int}, HideIn ns t L rs e R → HideIn ns s L ks f S → rs = ks ∧ e = f ∧ R = S
  | 0, 0, L, rs, e, R, ks, f, S, h, h' => h.1.unique h'.1
  | 0, s + 1, L, rs, e, R, ks, f, S, h, h' => by
    obtain ⟨r1, R1, k1, k2, _⟩ := h'
    obtain ⟨rfl, rfl, rfl⟩ := h.1.unique k1
    rcases h.2 with h2 | h2
    · exact absurd rfl h2
    · rw [h2] at k2; cases k2
  | t + 1, 0, L, rs, e, R, ks, f, S, h, h' => by
    obtain ⟨r1, R1, k1, k2, _⟩ := h
    obtain ⟨rfl, rfl, rfl⟩ := h'.1.unique k1
    rcases h'.2 with h2 | h2
    · exact absurd rfl h2
    · rw [h2] at k2; cases k2
  | t + 1, s + 1, L, rs, e, R, ks, f, S, h, h' => by
    obtain ⟨r1, R1, k1, _, k3⟩ := h
    obtain ⟨r2, R2, m1, _, m3⟩ := h'
    obtain ⟨_, _, rfl⟩ := k1.unique m1
    exact HideIn.unique k3 m3
theorem Hide.unique {ns L rs ks : List Int} {e f : Int} {R S : List Int} (h : Hide ns L rs e R) (h' : Hide ns L ks f S) : rs = ks ∧ e = f ∧ R = S := by
  obtain ⟨t, h⟩ := h
  obtain ⟨s, h'⟩ := h'
  exact h.unique h'
theorem Hide.over {ns L rs : List Int} {e : Int} {R : List Int} (h : ResBelow ns L rs e R) (he : e ≠ 0) : Hide ns L rs e R := ⟨0, h, .inl he⟩
theorem Hide.hit {ns L rs : List Int} {e : Int} {R : List Int} (h : ResBelow ns L rs e R) (hu : unitB rs ns (nv ns) = true) : Hide ns L rs e R := ⟨0, h, .inr hu⟩
theorem Hide.miss {ns L r1 R1 rs : List Int} {e : Int} {R : List Int} (h : ResBelow ns L r1 0 R1) (hu : unitB r1 ns (nv ns) = false) (hh : Hide ns R1 rs e R) : Hide ns L rs e R := by
  obtain ⟨t, ht⟩ := hh
  exact ⟨t + 1, r1, R1, h, hu, ht⟩

theorem drawn_less {k : Nat} {M n : Int} (hk : 0 < k) : ∀ {t : Nat} {L : List Int} {x : Int} {R : List Int}, DrawnIn k M n t L (some x) R → R.length < L.length
  | 0, L, x, R, h => by
    rcases h with ⟨_, e, _⟩ | ⟨h1, _, _, rfl⟩
    · cases e
    · simp; omega
  | t + 1, L, x, R, h => by
    obtain ⟨h1, _, h3⟩ := h
    have := drawn_less hk h3
    simp at this
    omega
/-- A draw below a number above 1 uses bytes. -/
theorem ResBelow.less {zs L ls R : List Int} (hd : Digs 18446744073709551616 zs) (h : ResBelow zs L ls 0 R) (hr : rightB zs = true) (h2 : 2 ≤ val 18446744073709551616 zs) : R.length < L.length := by
  unfold ResBelow at h
  have hp : 0 < zs.length := by
    rcases Nat.eq_zero_or_pos zs.length with e | e
    · have := List.eq_nil_of_length_eq_zero e
      subst this
      simp [val] at h2
    · exact e
  rw [if_pos ⟨hr, hp⟩] at h
  obtain ⟨ms, md, mt, mv, h⟩ := h
  have hm : rightB ms = true := right_mk (len_le (B := 18446744073709551616) (by decide) md mt (k := 64) (by rw [mv]; exact Int.lt_of_le_of_lt (by omega) (val_64 hd hr))) mt
  have hb0 := (bits_lt md hm (nv_val md)).1
  have hb : bitsZ ms ≠ 0 := fun e => by
    have hl := (bits_lt md hm (nv_val md)).2.2
    rw [e] at hl
    have := nv_val md
    simp at hl
    omega
  rw [if_neg hb] at h
  obtain ⟨r, ⟨t, hdr⟩, ⟨_, _, e⟩ | ⟨x, rfl, _⟩⟩ := h
  · cases e
  · exact drawn_less (by omega) hdr

/-- What is told of a number hidden behind one from a tape, and what is left of it. -/
def ResDraw (ns ms L ls : List Int) (err : Int) (R : List Int) : Prop :=
  (pubB ns = false ∧ ls = [] ∧ err = 1 ∧ R = L) ∨ (pubB ns = true ∧ plainB ns ms = false ∧ ls = [] ∧ err = 10 ∧ R = L) ∨
    (pubB ns = true ∧ plainB ns ms = true ∧ ∃ rs e, Hide ns L rs e R ∧ ((e ≠ 0 ∧ ls = [] ∧ err = e) ∨ (e = 0 ∧ Told (encF ns ms rs) (encV ns ms rs) ls err)))
theorem ResDraw.unique {ns ms L ls ks : List Int} {e f : Int} {R S : List Int} (h : ResDraw ns ms L ls e R) (h' : ResDraw ns ms L ks f S) : ls = ks ∧ e = f ∧ R = S := by
  rcases h with ⟨a, rfl, rfl, rfl⟩ | ⟨a, b, rfl, rfl, rfl⟩ | ⟨a, b, rs, x, h1, h2⟩ <;> rcases h' with ⟨a', rfl, rfl, rfl⟩ | ⟨a', b', rfl, rfl, rfl⟩ | ⟨a', b', rs', x', h1', h2'⟩
  · exact ⟨rfl, rfl, rfl⟩
  · rw [a] at a'; cases a'
  · rw [a] at a'; cases a'
  · rw [a] at a'; cases a'
  · exact ⟨rfl, rfl, rfl⟩
  · rw [b] at b'; cases b'
  · rw [a] at a'; cases a'
  · rw [b] at b'; cases b'
  · obtain ⟨rfl, rfl, rfl⟩ := h1.unique h1'
    rcases h2 with ⟨c, rfl, rfl⟩ | ⟨c, h2⟩ <;> rcases h2' with ⟨c', rfl, rfl⟩ | ⟨c', h2'⟩
    · exact ⟨rfl, rfl, rfl⟩
    · exact absurd c' c
    · exact absurd c c'
    · obtain ⟨rfl, rfl⟩ := h2.unique h2'
      exact ⟨rfl, rfl, rfl⟩
/-- What is told where there is no tape. -/
def noneF (ns ms : List Int) : Int := if pubB ns then (if plainB ns ms then 1 else 10) else 1
/-- What Draw makes of a tape. -/
def DrawT (At : World → Nat → List Int → Prop) (w : World) (g : Nat) (ns ms L : List Int) (e : Ending) (w' : World) : Prop :=
  ∃ a l c ls err R, e = .returned (.tuple #[.slice a l c, .int .i64 err]) ∧ Nums w' a l c ls ∧ ResDraw ns ms L ls err R ∧ At w' g R ∧ w.grownBy w' (some g)
end Go.Proofs.Ytchmlfjjgehbkaa

namespace Go.Proofs.Ytchmlfjjgehbkaa
open Go.RowKit

/-- The number c is a cipher text of the key, and hides x. -/
def Hides (P Q c x : Nat) : Prop := KeyOk P Q ∧ 0 < c ∧ c < P * Q * (P * Q) ∧ Nat.gcd c (P * Q) = 1 ∧ Dec (P * Q) ((P - 1) * (Q - 1)) c x

theorem hides_mod {P Q c x : Nat} (hK : KeyOk P Q) (hg : Nat.gcd c (P * Q) = 1) (hD : Dec (P * Q) ((P - 1) * (Q - 1)) c x) : Hides P Q (c % (P * Q * (P * Q))) x := by
  obtain ⟨_, _, _, _, n1, _, _⟩ := hK.facts
  obtain ⟨n, hn⟩ : ∃ n, n = P * Q := ⟨_, rfl⟩
  have hu := unit_mod hg
  refine ⟨hK, ?_, Nat.mod_lt _ (Nat.mul_pos (by omega) (by omega)), hu, Dec.mod.2 hD⟩
  rcases Nat.eq_zero_or_pos (c % (P * Q * (P * Q))) with e | e
  · rw [e, Nat.gcd_zero_left] at hu
    omega
  · exact e
theorem Hides.euler {P Q c x : Nat} (h : Hides P Q c x) : c ^ ((P - 1) * (Q - 1)) % (P * Q) = 1 := h.1.euler h.2.2.2.1
theorem Hides.two {P Q c x : Nat} (h : Hides P Q c x) : 2 ≤ P * Q := by have := h.1.facts.2.2.2.2.1; omega
theorem Hides.lt {P Q c x : Nat} (h : Hides P Q c x) : x < P * Q := h.2.2.2.2.1

theorem hides_enc {P Q m r : Nat} (hK : KeyOk P Q) (hm : m < P * Q) (hr : Nat.gcd r (P * Q) = 1) : Hides P Q ((1 + P * Q * m) * r ^ (P * Q) % (P * Q * (P * Q))) m := by
  have h2 : 2 ≤ P * Q := by have := hK.facts.2.2.2.2.1; omega
  have u1 := unit_shown (P * Q) m
  have u2 := unit_pow (P * Q) hr
  refine hides_mod hK (unit_mul u1 u2) ?_
  have := (Dec.shown (f := (P - 1) * (Q - 1)) h2 hm).mul h2 (hK.euler u1) (hK.euler u2) (Dec.hide h2 (hK.euler hr))
  rw [Nat.add_zero, Nat.mod_eq_of_lt hm] at this
  exact this
theorem Hides.add {P Q c d x y : Nat} (h : Hides P Q c x) (h' : Hides P Q d y) : Hides P Q (c * d % (P * Q * (P * Q))) ((x + y) % (P * Q)) :=
  hides_mod h.1 (unit_mul h.2.2.2.1 h'.2.2.2.1) (h.2.2.2.2.mul h.two h.euler h'.euler h'.2.2.2.2)
theorem Hides.plain {P Q c x m : Nat} (h : Hides P Q c x) (hm : m < P * Q) : Hides P Q (c * (1 + P * Q * m) % (P * Q * (P * Q))) ((x + m) % (P * Q)) :=
  hides_mod h.1 (unit_mul h.2.2.2.1 (unit_shown _ m)) (h.2.2.2.2.mul h.two h.euler (h.1.euler (unit_shown _ m)) (Dec.shown h.two hm))
theorem Hides.scale {P Q c x : Nat} (h : Hides P Q c x) (k : Nat) : Hides P Q (c ^ k % (P * Q * (P * Q))) (x * k % (P * Q)) :=
  hides_mod h.1 (unit_pow k h.2.2.2.1) (h.2.2.2.2.pow h.two h.euler)
theorem Hides.again {P Q c x r : Nat} (h : Hides P Q c x) (hr : Nat.gcd r (P * Q) = 1) : Hides P Q (c * r ^ (P * Q) % (P * Q * (P * Q))) x := by
  have u2 := unit_pow (P * Q) hr
  refine hides_mod h.1 (unit_mul h.2.2.2.1 u2) ?_
  have := h.2.2.2.2.mul h.two h.euler (h.1.euler u2) (Dec.hide h.two (h.1.euler hr))
  rw [Nat.add_zero, Nat.mod_eq_of_lt h.lt] at this
  exact this

/-- Limbs that are a cipher text. -/
theorem Hides.cipher {P Q c x : Nat} {cs : List Int} (h : Hides P Q c x) (hc : IsN cs c) : cipherB P Q cs = true := by
  rw [cipherB_iff, hc.nv]
  exact ⟨hc.2.1, h.2.1, h.2.2.1, h.2.2.2.1⟩
theorem Hides.valid {P Q c x : Nat} {ns cs : List Int} (h : Hides P Q c x) (hn : IsN ns (P * Q)) (hc : IsN cs c) : validB ns cs = true := by
  rw [valid_cipher h.1 hn]; exact h.cipher hc
/-- What is decrypted of it. -/
theorem Hides.told {P Q c x : Nat} {cs ls : List Int} {err : Int} (h : Hides P Q c x) (hc : IsN cs c) (hd : ResDec P Q cs ls err) : err = 0 ∧ IsN ls x := by
  rcases hd with ⟨_, _, rfl, y, hy, hl⟩ | ⟨_, k, _⟩ | ⟨k, _⟩
  · rw [hc.nv] at hy
    obtain rfl := hy.unique h.1.facts.2.2.2.1 h.2.2.2.2
    exact ⟨rfl, hl⟩
  · rw [h.cipher hc] at k; cases k
  · exact absurd h.1 k
theorem ResDec.hides {P Q : Nat} {cs ls : List Int} (hcd : Digs 18446744073709551616 cs) (hd : ResDec P Q cs ls 0) : ∃ x, Hides P Q (nv cs) x ∧ IsN cs (nv cs) ∧ IsN ls x := by
  rcases hd with ⟨hK, hc, _, x, hx, hl⟩ | ⟨_, _, k, _⟩ | ⟨_, k, _⟩
  · obtain ⟨h1, h2, h3, h4⟩ := (cipherB_iff P Q cs).1 hc
    exact ⟨x, ⟨hK, h2, h3, h4, hx⟩, IsN.self hcd h1, hl⟩
  · cases k
  · cases k

/-- The errors of Encrypt. -/
theorem enc_err {ns ms rs ls : List Int} {err : Int} (h : Told (encF ns ms rs) (encV ns ms rs) ls err) (he : err ≠ 0) : err = 10 ∨ err = 1 := by
  rcases h with ⟨e, h, _, rfl⟩ | ⟨_, _, h⟩
  · unfold encF at h
    split at h
    · split at h
      · split at h
        · cases h
        · cases h; exact .inr rfl
      · cases h; exact .inl rfl
    · cases h; exact .inr rfl
  · exact absurd h he
theorem enc_ok {ns ms rs ls : List Int} (h : Told (encF ns ms rs) (encV ns ms rs) ls 0) : plainB ns ms = true ∧ unitB rs ns (nv ns) = true ∧ IsN ls (encV ns ms rs) := by
  obtain ⟨h1, h2⟩ := h.ok encF_ne
  unfold encF at h1
  split at h1
  · split at h1
    · split at h1
      · exact ⟨by assumption, by assumption, h2⟩
      · cases h1
    · cases h1
  · cases h1
/-- What Encrypt tells with a key's public part. -/
theorem enc_hides {P Q : Nat} {ns ms rs ls : List Int} (hK : KeyOk P Q) (hn : IsN ns (P * Q)) (h : Told (encF ns ms rs) (encV ns ms rs) ls 0) : ∃ c, Hides P Q c (nv ms) ∧ IsN ls c ∧ rightB ms = true := by
  obtain ⟨h1, h2, h3⟩ := enc_ok h
  obtain ⟨k1, k2⟩ := (plainB_iff _ _).1 h1
  obtain ⟨_, _, _, k4⟩ := (unitB_iff _ _ _).1 h2
  rw [hn.nv] at k2 k4
  refine ⟨_, hides_enc hK k2 k4, ?_, k1⟩
  unfold encV at h3
  rw [hn.nv] at h3
  exact h3
theorem dec_err {P Q : Nat} {cs ls : List Int} {err : Int} (hK : KeyOk P Q) (h : ResDec P Q cs ls err) : err = 0 ∨ err = 11 := by
  rcases h with ⟨_, _, h, _⟩ | ⟨_, _, h, _⟩ | ⟨h, _⟩
  · exact .inl h
  · exact .inr h
  · exact absurd hK h

theorem KeyOk.pub {P Q : Nat} {ns : List Int} (hK : KeyOk P Q) (hn : IsN ns (P * Q)) : pubB ns = true := by
  unfold pubB; rw [hn.2.1, hn.nv, hK.may]; rfl
theorem add_hides {P Q c d x y : Nat} {ns cs ds ls : List Int} {err : Int} (hn : IsN ns (P * Q)) (h : Hides P Q c x) (h' : Hides P Q d y) (hc : IsN cs c) (hd : IsN ds d) (ht : Told (addF ns cs ds) (addV ns cs ds) ls err) : err = 0 ∧ ∃ a, Hides P Q a ((x + y) % (P * Q)) ∧ IsN ls a := by
  have hf : addF ns cs ds = none := by unfold addF; simp [h.1.pub hn, h.valid hn hc, h'.valid hn hd]
  rw [hf] at ht
  rcases ht with ⟨e, k, _⟩ | ⟨_, k, rfl⟩
  · cases k
  · unfold addV at k
    rw [hn.nv, hc.nv, hd.nv] at k
    exact ⟨rfl, _, h.add h', k⟩
theorem again_hides {P Q c x : Nat} {ns cs rs ls : List Int} (hn : IsN ns (P * Q)) (h : Hides P Q c x) (hc : IsN cs c) (ht : Told (againF ns cs rs) (againV ns cs rs) ls 0) : ∃ a, Hides P Q a x ∧ IsN ls a := by
  obtain ⟨h1, h2⟩ := ht.ok againF_ne
  unfold againF at h1
  rw [h.1.pub hn, h.valid hn hc] at h1
  simp at h1
  obtain ⟨_, _, _, k4⟩ := (unitB_iff _ _ _).1 h1
  unfold againV at h2
  rw [hn.nv] at k4 h2
  rw [hc.nv] at h2
  exact ⟨_, h.again k4, h2⟩
/-- Plain and Scale have the same faults. -/
theorem plain_err {P Q c x : Nat} {ns cs ms ls ks : List Int} {e f : Int} {v u : Nat} (hn : IsN ns (P * Q)) (h : Hides P Q c x) (hc : IsN cs c) (ht : Told (plainF ns cs ms) v ls e) (hs : Told (plainF ns cs ms) u ks f) : e = f ∧ (e = 0 ∨ e = 10) := by
  have hf : plainF ns cs ms = if plainB ns ms then none else some 10 := by unfold plainF; simp [h.1.pub hn, h.valid hn hc]
  rw [hf] at ht hs
  rcases ht with ⟨e, k, _, rfl⟩ | ⟨k, _, rfl⟩ <;> rcases hs with ⟨e', k', _, rfl⟩ | ⟨k', _, rfl⟩
  · rw [k] at k'
    cases k'
    split at k
    · cases k
    · cases k; exact ⟨rfl, .inr rfl⟩
  · rw [k] at k'; cases k'
  · rw [k] at k'; cases k'
  · exact ⟨rfl, .inl rfl⟩
theorem plain_ok {P Q c x : Nat} {ns cs ms ls : List Int} {v : Nat} (hn : IsN ns (P * Q)) (h : Hides P Q c x) (hc : IsN cs c) (ht : Told (plainF ns cs ms) v ls 0) : rightB ms = true ∧ nv ms < P * Q ∧ IsN ls v := by
  obtain ⟨h1, h2⟩ := ht.ok plainF_ne
  have hf : plainF ns cs ms = if plainB ns ms then none else some 10 := by unfold plainF; simp [h.1.pub hn, h.valid hn hc]
  rw [hf] at h1
  split at h1
  · rename_i hp
    obtain ⟨k1, k2⟩ := (plainB_iff _ _).1 hp
    rw [hn.nv] at k2
    exact ⟨k1, k2, h2⟩
  · cases h1
theorem plain_hides {P Q c x : Nat} {ns cs ms ls : List Int} (hn : IsN ns (P * Q)) (h : Hides P Q c x) (hc : IsN cs c) (ht : Told (plainF ns cs ms) (plainV ns cs ms) ls 0) : ∃ a, Hides P Q a ((x + nv ms) % (P * Q)) ∧ IsN ls a := by
  obtain ⟨_, k2, k3⟩ := plain_ok hn h hc ht
  unfold plainV at k3
  rw [hn.nv, hc.nv] at k3
  exact ⟨_, h.plain k2, k3⟩
theorem scale_hides {P Q c x : Nat} {ns cs ms ls : List Int} (hn : IsN ns (P * Q)) (h : Hides P Q c x) (hc : IsN cs c) (ht : Told (plainF ns cs ms) (scaleV ns cs ms) ls 0) : ∃ a, Hides P Q a (x * nv ms % (P * Q)) ∧ IsN ls a := by
  obtain ⟨_, _, k3⟩ := plain_ok hn h hc ht
  unfold scaleV at k3
  rw [hn.nv, hc.nv] at k3
  exact ⟨_, h.scale _, k3⟩
end Go.Proofs.Ytchmlfjjgehbkaa

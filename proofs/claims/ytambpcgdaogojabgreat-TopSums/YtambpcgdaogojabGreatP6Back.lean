/-
  What was hidden is told; sums go through: of a key's cipher texts.
-/
import Derived.Test.YtambpcgdaogojabGreatP6Ans
namespace Go.Proofs.YtambpcgdaogojabGreat
open Go.RowKit

/-- The number c is a cipher text of the key, and hides x. -/
def Hides (P Q c x : Nat) : Prop := KeyOk P Q ∧ 0 < c ∧ c < P * Q * (P * Q) ∧ Nat.gcd c (P * Q) = 1 ∧ Dec (P * Q) ((P - 1) * (Q - 1)) c x

theorem hides_mod {P Q c x : Nat} (hK : KeyOk P Q) (hg : Nat.gcd c (P * Q) = 1) (hD : Dec (P * Q) ((P - 1) * (Q - 1)) c x) : Hides P Q (c % (P * Q * (P * Q))) x := by
  obtain ⟨_, _, _, _, n1, _, _⟩ := hK.facts
  obtain ⟨n, hn⟩ : ∃ n, n = P * Q := ⟨_, rfl⟩
  have hu := unit_mod hg
  refine ⟨hK, ?_, Nat.mod_lt _ (Nat.mul_pos (by omega) (by omega)), hu, Dec.mod.2 hD⟩
  rcases Nat.eq_zero_or_pos (c % (P * Q * (P * Q))) with e | e
  · rw [e, Nat.gcd_zero_left] at hu
    omega
  · exact e
theorem Hides.euler {P Q c x : Nat} (h : Hides P Q c x) : c ^ ((P - 1) * (Q - 1)) % (P * Q) = 1 := h.1.euler h.2.2.2.1
theorem Hides.two {P Q c x : Nat} (h : Hides P Q c x) : 2 ≤ P * Q := by have := h.1.facts.2.2.2.2.1; omega
theorem Hides.lt {P Q c x : Nat} (h : Hides P Q c x) : x < P * Q := h.2.2.2.2.1

theorem hides_enc {P Q m r : Nat} (hK : KeyOk P Q) (hm : m < P * Q) (hr : Nat.gcd r (P * Q) = 1) : Hides P Q ((1 + P * Q * m) * r ^ (P * Q) % (P * Q * (P * Q))) m := by
  have h2 : 2 ≤ P * Q := by have := hK.facts.2.2.2.2.1; omega
  have u1 := unit_shown (P * Q) m
  have u2 := unit_pow (P * Q) hr
  refine hides_mod hK (unit_mul u1 u2) ?_
  have := (Dec.shown (f := (P - 1) * (Q - 1)) h2 hm).mul h2 (hK.euler u1) (hK.euler u2) (Dec.hide h2 (hK.euler hr))
  rw [Nat.add_zero, Nat.mod_eq_of_lt hm] at this
  exact this
theorem Hides.add {P Q c d x y : Nat} (h : Hides P Q c x) (h' : Hides P Q d y) : Hides P Q (c * d % (P * Q * (P * Q))) ((x + y) % (P * Q)) :=
  hides_mod h.1 (unit_mul h.2.2.2.1 h'.2.2.2.1) (h.2.2.2.2.mul h.two h.euler h'.euler h'.2.2.2.2)
theorem Hides.plain {P Q c x m : Nat} (h : Hides P Q c x) (hm : m < P * Q) : Hides P Q (c * (1 + P * Q * m) % (P * Q * (P * Q))) ((x + m) % (P * Q)) :=
  hides_mod h.1 (unit_mul h.2.2.2.1 (unit_shown _ m)) (h.2.2.2.2.mul h.two h.euler (h.1.euler (unit_shown _ m)) (Dec.shown h.two hm))
theorem Hides.scale {P Q c x : Nat} (h : Hides P Q c x) (k : Nat) : Hides P Q (c ^ k % (P * Q * (P * Q))) (x * k % (P * Q)) :=
  hides_mod h.1 (unit_pow k h.2.2.2.1) (h.2.2.2.2.pow h.two h.euler)
theorem Hides.again {P Q c x r : Nat} (h : Hides P Q c x) (hr : Nat.gcd r (P * Q) = 1) : Hides P Q (c * r ^ (P * Q) % (P * Q * (P * Q))) x := by
  have u2 := unit_pow (P * Q) hr
  refine hides_mod h.1 (unit_mul h.2.2.2.1 u2) ?_
  have := h.2.2.2.2.mul h.two h.euler (h.1.euler u2) (Dec.hide h.two (h.1.euler hr))
  rw [Nat.add_zero, Nat.mod_eq_of_lt h.lt] at this
  exact this

/-- Limbs that are a cipher text. -/
theorem Hides.cipher {P Q c x : Nat} {cs : List Int} (h : Hides P Q c x) (hc : IsN cs c) : cipherB P Q cs = true := by
  rw [cipherB_iff, hc.nv]
  exact ⟨hc.2.1, h.2.1, h.2.2.1, h.2.2.2.1⟩
theorem Hides.valid {P Q c x : Nat} {ns cs : List Int} (h : Hides P Q c x) (hn : IsN ns (P * Q)) (hc : IsN cs c) : validB ns cs = true := by
  rw [valid_cipher h.1 hn]; exact h.cipher hc
/-- What is decrypted of it. -/
theorem Hides.told {P Q c x : Nat} {cs ls : List Int} {err : Int} (h : Hides P Q c x) (hc : IsN cs c) (hd : ResDec P Q cs ls err) : err = 0 ∧ IsN ls x := by
  rcases hd with ⟨_, _, rfl, y, hy, hl⟩ | ⟨_, k, _⟩ | ⟨k, _⟩
  · rw [hc.nv] at hy
    obtain rfl := hy.unique h.1.facts.2.2.2.1 h.2.2.2.2
    exact ⟨rfl, hl⟩
  · rw [h.cipher hc] at k; cases k
  · exact absurd h.1 k
theorem ResDec.hides {P Q : Nat} {cs ls : List Int} (hcd : Digs 18446744073709551616 cs) (hd : ResDec P Q cs ls 0) : ∃ x, Hides P Q (nv cs) x ∧ IsN cs (nv cs) ∧ IsN ls x := by
  rcases hd with ⟨hK, hc, _, x, hx, hl⟩ | ⟨_, _, k, _⟩ | ⟨_, k, _⟩
  · obtain ⟨h1, h2, h3, h4⟩ := (cipherB_iff P Q cs).1 hc
    exact ⟨x, ⟨hK, h2, h3, h4, hx⟩, IsN.self hcd h1, hl⟩
  · cases k
  · cases k

/-- The errors of Encrypt. -/
theorem enc_err {ns ms rs ls : List Int} {err : Int} (h : Told (encF ns ms rs) (encV ns ms rs) ls err) (he : err ≠ 0) : err = 10 ∨ err = 1 := by
  rcases h with ⟨e, h, _, rfl⟩ | ⟨_, _, h⟩
  · unfold encF at h
    split at h
    · split at h
      · split at h
        · cases h
        · cases h; exact .inr rfl
      · cases h; exact .inl rfl
    · cases h; exact .inr rfl
  · exact absurd h he
theorem enc_ok {ns ms rs ls : List Int} (h : Told (encF ns ms rs) (encV ns ms rs) ls 0) : plainB ns ms = true ∧ unitB rs ns (nv ns) = true ∧ IsN ls (encV ns ms rs) := by
  obtain ⟨h1, h2⟩ := h.ok encF_ne
  unfold encF at h1
  split at h1
  · split at h1
    · split at h1
      · exact ⟨by assumption, by assumption, h2⟩
      · cases h1
    · cases h1
  · cases h1
/-- What Encrypt tells with a key's public part. -/
theorem enc_hides {P Q : Nat} {ns ms rs ls : List Int} (hK : KeyOk P Q) (hn : IsN ns (P * Q)) (h : Told (encF ns ms rs) (encV ns ms rs) ls 0) : ∃ c, Hides P Q c (nv ms) ∧ IsN ls c ∧ rightB ms = true := by
  obtain ⟨h1, h2, h3⟩ := enc_ok h
  obtain ⟨k1, k2⟩ := (plainB_iff _ _).1 h1
  obtain ⟨_, _, _, k4⟩ := (unitB_iff _ _ _).1 h2
  rw [hn.nv] at k2 k4
  refine ⟨_, hides_enc hK k2 k4, ?_, k1⟩
  unfold encV at h3
  rw [hn.nv] at h3
  exact h3
theorem dec_err {P Q : Nat} {cs ls : List Int} {err : Int} (hK : KeyOk P Q) (h : ResDec P Q cs ls err) : err = 0 ∨ err = 11 := by
  rcases h with ⟨_, _, h, _⟩ | ⟨_, _, h, _⟩ | ⟨h, _⟩
  · exact .inl h
  · exact .inr h
  · exact absurd hK h

theorem KeyOk.pub {P Q : Nat} {ns : List Int} (hK : KeyOk P Q) (hn : IsN ns (P * Q)) : pubB ns = true := by
  unfold pubB; rw [hn.2.1, hn.nv, hK.may]; rfl
theorem add_hides {P Q c d x y : Nat} {ns cs ds ls : List Int} {err : Int} (hn : IsN ns (P * Q)) (h : Hides P Q c x) (h' : Hides P Q d y) (hc : IsN cs c) (hd : IsN ds d) (ht : Told (addF ns cs ds) (addV ns cs ds) ls err) : err = 0 ∧ ∃ a, Hides P Q a ((x + y) % (P * Q)) ∧ IsN ls a := by
  have hf : addF ns cs ds = none := by unfold addF; simp [h.1.pub hn, h.valid hn hc, h'.valid hn hd]
  rw [hf] at ht
  rcases ht with ⟨e, k, _⟩ | ⟨_, k, rfl⟩
  · cases k
  · unfold addV at k
    rw [hn.nv, hc.nv, hd.nv] at k
    exact ⟨rfl, _, h.add h', k⟩
theorem again_hides {P Q c x : Nat} {ns cs rs ls : List Int} (hn : IsN ns (P * Q)) (h : Hides P Q c x) (hc : IsN cs c) (ht : Told (againF ns cs rs) (againV ns cs rs) ls 0) : ∃ a, Hides P Q a x ∧ IsN ls a := by
  obtain ⟨h1, h2⟩ := ht.ok againF_ne
  unfold againF at h1
  rw [h.1.pub hn, h.valid hn hc] at h1
  simp at h1
  obtain ⟨_, _, _, k4⟩ := (unitB_iff _ _ _).1 h1
  unfold againV at h2
  rw [hn.nv] at k4 h2
  rw [hc.nv] at h2
  exact ⟨_, h.again k4, h2⟩
/-- Plain and Scale have the same faults. -/
theorem plain_err {P Q c x : Nat} {ns cs ms ls ks : List Int} {e f : Int} {v u : Nat} (hn : IsN ns (P * Q)) (h : Hides P Q c x) (hc : IsN cs c) (ht : Told (plainF ns cs ms) v ls e) (hs : Told (plainF ns cs ms) u ks f) : e = f ∧ (e = 0 ∨ e = 10) := by
  have hf : plainF ns cs ms = if plainB ns ms then none else some 10 := by unfold plainF; simp [h.1.pub hn, h.valid hn hc]
  rw [hf] at ht hs
  rcases ht with ⟨e, k, _, rfl⟩ | ⟨k, _, rfl⟩ <;> rcases hs with ⟨e', k', _, rfl⟩ | ⟨k', _, rfl⟩
  · rw [k] at k'
    cases k'
    split at k
    · cases k
    · cases k; exact ⟨rfl, .inr rfl⟩
  · rw [k] at k'; cases k'
  · rw [k] at k'; cases k'
  · exact ⟨rfl, .inl rfl⟩
theorem plain_ok {P Q c x : Nat} {ns cs ms ls : List Int} {v : Nat} (hn : IsN ns (P * Q)) (h : Hides P Q c x) (hc : IsN cs c) (ht : Told (plainF ns cs ms) v ls 0) : rightB ms = true ∧ nv ms < P * Q ∧ IsN ls v := by
  obtain ⟨h1, h2⟩ := ht.ok plainF_ne
  have hf : plainF ns cs ms = if plainB ns ms then none else some 10 := by unfold plainF; simp [h.1.pub hn, h.valid hn hc]
  rw [hf] at h1
  split at h1
  · rename_i hp
    obtain ⟨k1, k2⟩ := (plainB_iff _ _).1 hp
    rw [hn.nv] at k2
    exact ⟨k1, k2, h2⟩
  · cases h1
theorem plain_hides {P Q c x : Nat} {ns cs ms ls : List Int} (hn : IsN ns (P * Q)) (h : Hides P Q c x) (hc : IsN cs c) (ht : Told (plainF ns cs ms) (plainV ns cs ms) ls 0) : ∃ a, Hides P Q a ((x + nv ms) % (P * Q)) ∧ IsN ls a := by
  obtain ⟨_, k2, k3⟩ := plain_ok hn h hc ht
  unfold plainV at k3
  rw [hn.nv, hc.nv] at k3
  exact ⟨_, h.plain k2, k3⟩
theorem scale_hides {P Q c x : Nat} {ns cs ms ls : List Int} (hn : IsN ns (P * Q)) (h : Hides P Q c x) (hc : IsN cs c) (ht : Told (plainF ns cs ms) (scaleV ns cs ms) ls 0) : ∃ a, Hides P Q a (x * nv ms % (P * Q)) ∧ IsN ls a := by
  obtain ⟨_, _, k3⟩ := plain_ok hn h hc ht
  unfold scaleV at k3
  rw [hn.nv, hc.nv] at k3
  exact ⟨_, h.scale _, k3⟩
end Go.Proofs.YtambpcgdaogojabGreat

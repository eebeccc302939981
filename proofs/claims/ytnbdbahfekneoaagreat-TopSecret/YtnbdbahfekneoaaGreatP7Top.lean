/-
  The walk of the law on pairs that are packed, hidden by a tape, added while they are hidden, decrypted and unpacked.
-/
import Derived.Test.YtnbdbahfekneoaaGreatR6T
import Derived.Test.YtnbdbahfekneoaaGreatP6A
import Derived.Test.YtnbdbahfekneoaaGreatF7A
import Derived.Test.YtnbdbahfekneoaaGreatTapeP
namespace Go.Proofs.YtnbdbahfekneoaaGreat
open Go.RowKit

theorem drawn_lt {k : Nat} {M n : Int} : ∀ {t : Nat} {L : List Int} {x : Int} {R : List Int}, DrawnIn k M n t L (some x) R → x < n
  | 0, L, x, R, h => by
    rcases h with ⟨_, e, _⟩ | ⟨_, h1, e, _⟩
    · cases e
    · cases e; exact h1
  | t + 1, L, x, R, h => drawn_lt h.2.2
/-- The errors of a draw below a number. -/
theorem below_err {zs L ls : List Int} {e : Int} {R : List Int} (hd : Digs 18446744073709551616 zs) (hr : rightB zs = true) (hp : 0 < zs.length) (h : ResBelow zs L ls e R) : e = 0 ∨ e = 7 := by
  unfold ResBelow at h
  rw [if_pos ⟨hr, hp⟩] at h
  obtain ⟨ms, _, _, _, h⟩ := h
  split at h
  · exact .inl h.2.1
  · obtain ⟨r, ⟨t, hdr⟩, ⟨_, _, e⟩ | ⟨x, rfl, hx⟩⟩ := h
    · exact .inr e
    · have h1 := drawn_lt hdr
      have h2 := val_64 hd hr
      exact .inl (res_fits hx (by omega)).1
theorem hide_err {ns : List Int} (hd : Digs 18446744073709551616 ns) (hr : rightB ns = true) (hp : 0 < ns.length) : ∀ {t : Nat} {L rs : List Int} {e : Int} {R : List Int}, HideIn ns t L rs e R → e = 0 ∨ e = 7
  | 0, _, _, _, _, h => below_err hd hr hp h.1
  | t + 1, _, _, _, _, h => by
    obtain ⟨r1, R1, _, _, h3⟩ := h
    exact hide_err hd hr hp h3
theorem hide_unit {ns : List Int} : ∀ {t : Nat} {L rs R : List Int}, HideIn ns t L rs 0 R → unitB rs ns (nv ns) = true
  | 0, _, _, _, h => by
    rcases h.2 with e | e
    · exact absurd rfl e
    · exact e
  | t + 1, _, _, _, h => by
    obtain ⟨r1, R1, _, _, h3⟩ := h
    exact hide_unit h3
theorem hides_one {P Q : Nat} (hK : KeyOk P Q) : Hides P Q 1 0 := by
  have h2 : 2 ≤ P * Q := by have := hK.facts.2.2.2.2.1; omega
  have h := hides_enc (m := 0) (r := 1) hK (by omega) (Nat.gcd_one_left _)
  have e : (1 + P * Q * 0) * 1 ^ (P * Q) % (P * Q * (P * Q)) = 1 := by
    rw [Nat.mul_zero, Nat.add_zero, Nat.one_pow, Nat.mul_one]
    have h3 := Nat.mul_le_mul h2 h2
    exact Nat.mod_eq_of_lt (by omega)
  rw [e] at h
  exact h
/-- What Draw tells with a key's public part. -/
theorem draw_hides {P Q p : Nat} {ns ps L ls : List Int} {err : Int} {R : List Int} (hK : KeyOk P Q) (hn : IsN ns (P * Q)) (hps : IsN ps p) (hp : p < P * Q) (h : ResDraw ns ps L ls err R) : err = 7 ∨ (err = 0 ∧ ∃ c, Hides P Q c p ∧ IsN ls c) := by
  have hpub := hK.pub hn
  have hpl : plainB ns ps = true := (plainB_iff _ _).2 ⟨hps.2.1, by rw [hps.nv, hn.nv]; exact hp⟩
  have hpos := hn.pos (by omega)
  rcases h with ⟨a, _⟩ | ⟨_, b, _⟩ | ⟨_, _, rs, e, ⟨t, hH⟩, hh⟩
  · rw [hpub] at a; cases a
  · rw [hpl] at b; cases b
  · rcases hh with ⟨he, _, rfl⟩ | ⟨rfl, hT⟩
    · rcases hide_err hn.1 hn.2.1 hpos hH with c | c
      · exact absurd c he
      · exact .inl c
    · have hu := hide_unit hH
      have hf : encF ns ps rs = none := by unfold encF; simp [hpub, hpl, hu]
      have h0 : err = 0 := by
        rcases hT with ⟨e, k, _⟩ | ⟨_, _, k⟩
        · rw [hf] at k; cases k
        · exact k
      subst h0
      obtain ⟨c, h1, h2, _⟩ := enc_hides hK hn hT
      rw [hps.nv] at h1
      exact .inr ⟨rfl, c, h1, h2⟩

/-- A block holds these cells. -/
def RowAt (w : World) (g : Nat) (cur : Array Value) (t : TypeId) : Prop := w.heap[g]? = some (.cells cur t (0, 0))
theorem RowAt.lt {w : World} {g : Nat} {cur : Array Value} {t : TypeId} (h : RowAt w g cur t) : g < w.heap.size := (Array.getElem?_eq_some_iff.1 h).1
theorem RowAt.cell {w : World} {g : Nat} {cur : Array Value} {t : TypeId} (h : RowAt w g cur t) (j : Nat) : w.cell? ⟨g, j, none⟩ = cur[j]? := cell_of_row w g j _ _ _ h
theorem RowAt.frozen {w : World} {g : Nat} {cur : Array Value} {t : TypeId} (h : RowAt w g cur t) (j : Nat) : w.frozen? ⟨g, j, none⟩ = false := frozen_of_row w g j _ _ h
theorem RowAt.below {w w' : World} {g : Nat} {cur : Array Value} {t : TypeId} (h : RowAt w g cur t) (hb : Below w.heap.size w w') : RowAt w' g cur t := (hb.block g h.lt).trans h
theorem RowAt.apart {w w' : World} {g k : Nat} {cur : Array Value} {t : TypeId} (h : RowAt w g cur t) (hg : w.grownBy w' (some k)) (hne : g ≠ k) : RowAt w' g cur t := (hg.block g h.lt (fun e => hne (by simpa using e))).trans h
/-- The key lies in block g. -/
def KeyAt (w : World) (g : Nat) (x y : Int) : Prop := RowAt w g #[.int .u64 x, .int .u64 y] 24
theorem put_grown {w : World} {g : Nat} (x y : Value) : w.grownBy ((w.setCell ⟨g, 0, none⟩ x).setCell ⟨g, 1, none⟩ y) (some g) :=
  ⟨rfl, rfl, rfl, by simp, fun k _ hk => (heap_setCell_other _ ⟨g, 1, none⟩ k y (fun e => hk (by simp [e]))).trans (heap_setCell_other w ⟨g, 0, none⟩ k x (fun e => hk (by simp [e])))⟩

end Go.Proofs.YtnbdbahfekneoaaGreat

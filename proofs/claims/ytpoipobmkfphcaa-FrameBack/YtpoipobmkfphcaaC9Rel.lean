/-
  What is read of bytes: the answers, each of one number alone.
-/
import Derived.Test.YtpoipobmkfphcaaC9Ans
namespace Go.Proofs.Ytpoipobmkfphcaa
open Go.RowKit

/-- A number is read. -/
def ResNum (L : List Int) (most n : Nat) (err : Int) (R : List Int) : Prop :=
  ∃ m k, NextT L m k ∧ (((k = 0 ∨ most < m) ∧ n = 0 ∧ err = 13 ∧ R = L) ∨ (¬(k = 0 ∨ most < m) ∧ n = m ∧ err = 0 ∧ R = L.drop k))
theorem ResNum.unique {L : List Int} {most n n' : Nat} {err err' : Int} {R R' : List Int} (h : ResNum L most n err R) (h' : ResNum L most n' err' R') : n = n' ∧ err = err' ∧ R = R' := by
  obtain ⟨m, k, h1, h2⟩ := h
  obtain ⟨m', k', h1', h2'⟩ := h'
  obtain ⟨rfl, rfl⟩ := h1.unique h1'
  rcases h2 with ⟨c, rfl, rfl, rfl⟩ | ⟨c, rfl, rfl, rfl⟩ <;> rcases h2' with ⟨c', rfl, rfl, rfl⟩ | ⟨c', rfl, rfl, rfl⟩
  · exact ⟨rfl, rfl, rfl⟩
  · exact absurd c c'
  · exact absurd c' c
  · exact ⟨rfl, rfl, rfl⟩
theorem ResNum.lt {L : List Int} {most n : Nat} {err : Int} {R : List Int} (h : ResNum L most n err R) : n < 18446744073709551616 := by
  obtain ⟨m, k, h1, h2⟩ := h
  rcases h2 with ⟨c, rfl, rfl, rfl⟩ | ⟨c, rfl, rfl, rfl⟩
  · omega
  · exact (h1.pos (by omega)).1

/-- The whole number of a number. -/
def zag (m : Nat) : Int := if m % 2 = 1 then -((m / 2 : Nat) : Int) - 1 else ((m / 2 : Nat) : Int)
/-- A whole number is read. -/
def ResIntR (L : List Int) (most x err : Int) (R : List Int) : Prop :=
  ∃ m k : Nat, NextT L m k ∧ (((k = 0 ∨ most < 0 ∨ most < (((m + 1) / 2 : Nat) : Int)) ∧ x = 0 ∧ err = 13 ∧ R = L) ∨ (¬(k = 0 ∨ most < 0 ∨ most < (((m + 1) / 2 : Nat) : Int)) ∧ x = zag m ∧ err = 0 ∧ R = L.drop k))
theorem ResIntR.unique {L : List Int} {most x x' err err' : Int} {R R' : List Int} (h : ResIntR L most x err R) (h' : ResIntR L most x' err' R') : x = x' ∧ err = err' ∧ R = R' := by
  obtain ⟨m, k, h1, h2⟩ := h
  obtain ⟨m', k', h1', h2'⟩ := h'
  obtain ⟨rfl, rfl⟩ := h1.unique h1'
  rcases h2 with ⟨c, rfl, rfl, rfl⟩ | ⟨c, rfl, rfl, rfl⟩ <;> rcases h2' with ⟨c', rfl, rfl, rfl⟩ | ⟨c', rfl, rfl, rfl⟩
  · exact ⟨rfl, rfl, rfl⟩
  · exact absurd c c'
  · exact absurd c' c
  · exact ⟨rfl, rfl, rfl⟩

/-- Bytes are read. -/
def ResBytR (L : List Int) (most : Int) (ys : List Int) (err : Int) (R : List Int) : Prop :=
  ∃ m k : Nat, NextT L m k ∧ (((k = 0 ∨ most < 0 ∨ most < (m : Int) ∨ L.length - k < m) ∧ ys = [] ∧ err = 13 ∧ R = L) ∨ (¬(k = 0 ∨ most < 0 ∨ most < (m : Int) ∨ L.length - k < m) ∧ ys = (L.drop k).take m ∧ err = 0 ∧ R = L.drop (k + m)))
theorem ResBytR.unique {L : List Int} {most err err' : Int} {ys ys' R R' : List Int} (h : ResBytR L most ys err R) (h' : ResBytR L most ys' err' R') : ys = ys' ∧ err = err' ∧ R = R' := by
  obtain ⟨m, k, h1, h2⟩ := h
  obtain ⟨m', k', h1', h2'⟩ := h'
  obtain ⟨rfl, rfl⟩ := h1.unique h1'
  rcases h2 with ⟨c, rfl, rfl, rfl⟩ | ⟨c, rfl, rfl, rfl⟩ <;> rcases h2' with ⟨c', rfl, rfl, rfl⟩ | ⟨c', rfl, rfl, rfl⟩
  · exact ⟨rfl, rfl, rfl⟩
  · exact absurd c c'
  · exact absurd c' c
  · exact ⟨rfl, rfl, rfl⟩

/-- Block b is one of bytes. -/
def IsB (w : World) (b : Nat) : Prop := ∃ cur, w.heap[b]? = some (.cells cur 5 (0, 0))
theorem IsB.lt {w : World} {b : Nat} (h : IsB w b) : b < w.heap.size := by
  obtain ⟨cur, h⟩ := h
  exact (Array.getElem?_eq_some_iff.1 h).1
theorem IsB.kept {w w' : World} {b : Nat} (h : IsB w b) (e : w'.heap[b]? = w.heap[b]?) : IsB w' b := by
  obtain ⟨cur, h⟩ := h
  exact ⟨cur, e.trans h⟩
theorem IsB.below {w w' : World} {b : Nat} (h : IsB w b) (hb : Below w.heap.size w w') : IsB w' b := h.kept (hb.block b h.lt)
theorem IsB.not {w : World} {b : Nat} {cur : Array Value} {t : TypeId} {m : Nat × Nat} (h : w.heap[b]? = some (.cells cur t m)) (ht : t ≠ 5) : ¬ IsB w b := by
  rintro ⟨cur', h'⟩
  rw [h] at h'
  simp at h'
  exact ht h'.2.1
/-- What lies there, if there is any of it, lies in a block of bytes. -/
def IsBs (w : World) (a : Option Addr) (l : Nat) : Prop := ∀ ad, a = some ad → 0 < l → IsB w ad.block
theorem IsBs.below {w w' : World} {a : Option Addr} {l : Nat} (h : IsBs w a l) (hb : Below w.heap.size w w') : IsBs w' a l := fun ad e h0 => (h ad e h0).below hb
/-- What a call that reads makes, with At: where the reader lies. -/
def NumT (At : World → Nat → List Int → Prop) (w : World) (g : Nat) (L : List Int) (most : Nat) (e : Ending) (w' : World) : Prop :=
  ∃ n : Nat, ∃ err R, e = .returned (.tuple #[.int .u64 n, .int .i64 err]) ∧ ResNum L most n err R ∧ At w' g R ∧ w.grownBy w' (some g)
def IntT (At : World → Nat → List Int → Prop) (w : World) (g : Nat) (L : List Int) (most : Int) (e : Ending) (w' : World) : Prop :=
  ∃ x err R, e = .returned (.tuple #[.int .i64 x, .int .i64 err]) ∧ ResIntR L most x err R ∧ At w' g R ∧ w.grownBy w' (some g)
def BytT (At : World → Nat → List Int → Prop) (w : World) (g : Nat) (L : List Int) (most : Int) (e : Ending) (w' : World) : Prop :=
  ∃ a l c ys err R, e = .returned (.tuple #[.slice a l c, .int .i64 err]) ∧ (Byts w' a l c ys ∧ (a = none → c = 0) ∧ ∀ ad, a = some ad → 0 < l → w.heap.size ≤ ad.block ∧ IsB w' ad.block) ∧ ResBytR L most ys err R ∧ At w' g R ∧ w.grownBy w' (some g)
end Go.Proofs.Ytpoipobmkfphcaa

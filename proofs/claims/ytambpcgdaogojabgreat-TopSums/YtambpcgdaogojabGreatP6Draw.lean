/-
  What is told of a number hidden behind one from a tape.
-/
import Derived.Test.YtambpcgdaogojabGreatP6Ans
import Derived.Test.YtambpcgdaogojabGreatTMath
import Derived.Test.YtambpcgdaogojabGreatModA
namespace Go.Proofs.YtambpcgdaogojabGreat
open Go.RowKit

/-- So many draws are no hiders; the next one is, or the tape has ended. -/
def HideIn (ns : List Int) : Nat → List Int → List Int → Int → List Int → Prop
  | 0, L, rs, e, R => ResBelow ns L rs e R ∧ (e ≠ 0 ∨ unitB rs ns (nv ns) = true)
  | t + 1, L, rs, e, R => ∃ r1 R1, ResBelow ns L r1 0 R1 ∧ unitB r1 ns (nv ns) = false ∧ HideIn ns t R1 rs e R
def Hide (ns L rs : List Int) (e : Int) (R : List Int) : Prop := ∃ t, HideIn ns t L rs e R

theorem HideIn.unique {ns : List Int} : ∀ {t s : Nat} {L rs : List Int} {e : Int} {R ks : List Int} {f : Int} {S : List Int}, HideIn ns t L rs e R → HideIn ns s L ks f S → rs = ks ∧ e = f ∧ R = S
  | 0, 0, L, rs, e, R, ks, f, S, h, h' => h.1.unique h'.1
  | 0, s + 1, L, rs, e, R, ks, f, S, h, h' => by
    obtain ⟨r1, R1, k1, k2, _⟩ := h'
    obtain ⟨rfl, rfl, rfl⟩ := h.1.unique k1
    rcases h.2 with h2 | h2
    · exact absurd rfl h2
    · rw [h2] at k2; cases k2
  | t + 1, 0, L, rs, e, R, ks, f, S, h, h' => by
    obtain ⟨r1, R1, k1, k2, _⟩ := h
    obtain ⟨rfl, rfl, rfl⟩ := h'.1.unique k1
    rcases h'.2 with h2 | h2
    · exact absurd rfl h2
    · rw [h2] at k2; cases k2
  | t + 1, s + 1, L, rs, e, R, ks, f, S, h, h' => by
    obtain ⟨r1, R1, k1, _, k3⟩ := h
    obtain ⟨r2, R2, m1, _, m3⟩ := h'
    obtain ⟨_, _, rfl⟩ := k1.unique m1
    exact HideIn.unique k3 m3
theorem Hide.unique {ns L rs ks : List Int} {e f : Int} {R S : List Int} (h : Hide ns L rs e R) (h' : Hide ns L ks f S) : rs = ks ∧ e = f ∧ R = S := by
  obtain ⟨t, h⟩ := h
  obtain ⟨s, h'⟩ := h'
  exact h.unique h'
theorem Hide.over {ns L rs : List Int} {e : Int} {R : List Int} (h : ResBelow ns L rs e R) (he : e ≠ 0) : Hide ns L rs e R := ⟨0, h, .inl he⟩
theorem Hide.hit {ns L rs : List Int} {e : Int} {R : List Int} (h : ResBelow ns L rs e R) (hu : unitB rs ns (nv ns) = true) : Hide ns L rs e R := ⟨0, h, .inr hu⟩
theorem Hide.miss {ns L r1 R1 rs : List Int} {e : Int} {R : List Int} (h : ResBelow ns L r1 0 R1) (hu : unitB r1 ns (nv ns) = false) (hh : Hide ns R1 rs e R) : Hide ns L rs e R := by
  obtain ⟨t, ht⟩ := hh
  exact ⟨t + 1, r1, R1, h, hu, ht⟩

theorem drawn_less {k : Nat} {M n : Int} (hk : 0 < k) : ∀ {t : Nat} {L : List Int} {x : Int} {R : List Int}, DrawnIn k M n t L (some x) R → R.length < L.length
  | 0, L, x, R, h => by
    rcases h with ⟨_, e, _⟩ | ⟨h1, _, _, rfl⟩
    · cases e
    · simp; omega
  | t + 1, L, x, R, h => by
    obtain ⟨h1, _, h3⟩ := h
    have := drawn_less hk h3
    simp at this
    omega
/-- A draw below a number above 1 uses bytes. -/
theorem ResBelow.less {zs L ls R : List Int} (hd : Digs 18446744073709551616 zs) (h : ResBelow zs L ls 0 R) (hr : rightB zs = true) (h2 : 2 ≤ val 18446744073709551616 zs) : R.length < L.length := by
  unfold ResBelow at h
  have hp : 0 < zs.length := by
    rcases Nat.eq_zero_or_pos zs.length with e | e
    · have := List.eq_nil_of_length_eq_zero e
      subst this
      simp [val] at h2
    · exact e
  rw [if_pos ⟨hr, hp⟩] at h
  obtain ⟨ms, md, mt, mv, h⟩ := h
  have hm : rightB ms = true := right_mk (len_le (B := 18446744073709551616) (by decide) md mt (k := 64) (by rw [mv]; exact Int.lt_of_le_of_lt (by omega) (val_64 hd hr))) mt
  have hb0 := (bits_lt md hm (nv_val md)).1
  have hb : bitsZ ms ≠ 0 := fun e => by
    have hl := (bits_lt md hm (nv_val md)).2.2
    rw [e] at hl
    have := nv_val md
    simp at hl
    omega
  rw [if_neg hb] at h
  obtain ⟨r, ⟨t, hdr⟩, ⟨_, _, e⟩ | ⟨x, rfl, _⟩⟩ := h
  · cases e
  · exact drawn_less (by omega) hdr

/-- What is told of a number hidden behind one from a tape, and what is left of it. -/
def ResDraw (ns ms L ls : List Int) (err : Int) (R : List Int) : Prop :=
  (pubB ns = false ∧ ls = [] ∧ err = 1 ∧ R = L) ∨ (pubB ns = true ∧ plainB ns ms = false ∧ ls = [] ∧ err = 10 ∧ R = L) ∨
    (pubB ns = true ∧ plainB ns ms = true ∧ ∃ rs e, Hide ns L rs e R ∧ ((e ≠ 0 ∧ ls = [] ∧ err = e) ∨ (e = 0 ∧ Told (encF ns ms rs) (encV ns ms rs) ls err)))
theorem ResDraw.unique {ns ms L ls ks : List Int} {e f : Int} {R S : List Int} (h : ResDraw ns ms L ls e R) (h' : ResDraw ns ms L ks f S) : ls = ks ∧ e = f ∧ R = S := by
  rcases h with ⟨a, rfl, rfl, rfl⟩ | ⟨a, b, rfl, rfl, rfl⟩ | ⟨a, b, rs, x, h1, h2⟩ <;> rcases h' with ⟨a', rfl, rfl, rfl⟩ | ⟨a', b', rfl, rfl, rfl⟩ | ⟨a', b', rs', x', h1', h2'⟩
  · exact ⟨rfl, rfl, rfl⟩
  · rw [a] at a'; cases a'
  · rw [a] at a'; cases a'
  · rw [a] at a'; cases a'
  · exact ⟨rfl, rfl, rfl⟩
  · rw [b] at b'; cases b'
  · rw [a] at a'; cases a'
  · rw [b] at b'; cases b'
  · obtain ⟨rfl, rfl, rfl⟩ := h1.unique h1'
    rcases h2 with ⟨c, rfl, rfl⟩ | ⟨c, h2⟩ <;> rcases h2' with ⟨c', rfl, rfl⟩ | ⟨c', h2'⟩
    · exact ⟨rfl, rfl, rfl⟩
    · exact absurd c' c
    · exact absurd c c'
    · obtain ⟨rfl, rfl⟩ := h2.unique h2'
      exact ⟨rfl, rfl, rfl⟩
/-- What is told where there is no tape. -/
def noneF (ns ms : List Int) : Int := if pubB ns then (if plainB ns ms then 1 else 10) else 1
/-- What Draw makes of a tape. -/
def DrawT (At : World → Nat → List Int → Prop) (w : World) (g : Nat) (ns ms L : List Int) (e : Ending) (w' : World) : Prop :=
  ∃ a l c ls err R, e = .returned (.tuple #[.slice a l c, .int .i64 err]) ∧ Nums w' a l c ls ∧ ResDraw ns ms L ls err R ∧ At w' g R ∧ w.grownBy w' (some g)
end Go.Proofs.YtambpcgdaogojabGreat

/-
  What is read of a code is what it was made of.
-/
import Derived.Test.YtnbdbahfekneoaaC9A
namespace Go.Proofs.Ytnbdbahfekneoaa
open Go.RowKit

theorem back_num {c R : List Int} {n : Nat} (h : IsCode c n) (hn : n < 18446744073709551616) : ResNum (c ++ R) n n 0 R :=
  ⟨n, c.length, NextT.of_code h hn, .inr ⟨fun e => by
    rcases e with e | e
    · exact h.nonempty (List.eq_nil_of_length_eq_zero e)
    · omega, rfl, rfl, by simp⟩⟩
theorem zag_zig (x : Int) : zag (zig x) = x := by
  unfold zag zig
  split <;> split <;> omega
theorem zig_half (x : Int) : (((zig x + 1) / 2 : Nat) : Int) = if x < 0 then -x else x := by
  unfold zig
  split <;> split <;> omega
theorem back_int {c R : List Int} {x most : Int} (h : IsCode c (zig x)) (hx : -9223372036854775808 ≤ x ∧ x < 9223372036854775808) (hm : most = if x < 0 then -x else x) : ResIntR (c ++ R) most x 0 R :=
  ⟨zig x, c.length, NextT.of_code h (zig_lt hx), .inr ⟨fun e => by
    rcases e with e | e | e
    · exact h.nonempty (List.eq_nil_of_length_eq_zero e)
    · rw [hm] at e; split at e <;> omega
    · rw [zig_half, ← hm] at e; omega, (zag_zig x).symm, rfl, by simp⟩⟩
theorem back_byt {c bs : List Int} (h : IsCode c bs.length) (hn : bs.length < 18446744073709551616) : ResBytR (c ++ bs) (bs.length : Int) bs 0 [] :=
  ⟨bs.length, c.length, NextT.of_code h hn, .inr ⟨fun e => by
    rcases e with e | e | e | e
    · exact h.nonempty (List.eq_nil_of_length_eq_zero e)
    · omega
    · omega
    · simp at e, by simp, rfl, by simp⟩⟩
theorem nil9 {a : Option Addr} {n c : Nat} (h : Value.slice a n c ≠ .slice none 0 0 → a ≠ none) : a = none → c = 0 := fun e => by
  by_cases q : Value.slice a n c = .slice none 0 0
  · injection q
  · exact absurd e (h q)
theorem own9 {w w' : World} {base : Nat} {v : Value} {zs : List Int} (h : BOwn w base v zs) (hb : Below w.heap.size w w') : BOwn w' base v zs := by
  refine World.ownsRow.kept h (grown_of_below hb none) ?_
  cases hv : v.ownBlock with
  | none => exact .inl rfl
  | some k => right; intro e; cases e
end Go.Proofs.Ytnbdbahfekneoaa

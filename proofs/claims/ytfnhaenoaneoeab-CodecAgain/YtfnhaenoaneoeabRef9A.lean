/-
  Contracts of the document's Number, zigzag, Int and Bytes (codec).
-/
import Derived.Test.YtfnhaenoaneoeabC9Own
namespace Go.Proofs.Ytfnhaenoaneoeab
open Go.RowKit

/-- What a call that makes the code of a number makes: a row of its own. -/
def CodeT (n : Nat) (w : World) (e : Ending) (w' : World) : Prop := ∃ v c, e = .returned v ∧ BOwn w' w.heap.size v c ∧ IsCode c n ∧ Below w.heap.size w w'
theorem code_10 {c : List Int} {n : Nat} (h : IsCode c n) (hn : n < 18446744073709551616) : c.length ≤ 10 :=
  h.len (by have : (128 : Nat) ^ 10 = 1180591620717411303424 := by decide
            omega) (by omega)
theorem code_any {n : Nat} (hn : n < 18446744073709551616) : ∃ c, IsCode c n := code_ex 9 n (by
  have : (128 : Nat) ^ 10 = 1180591620717411303424 := by decide
  show n < 128 ^ 10
  omega)

/-- A whole number as a number. -/
def zig (x : Int) : Nat := if 0 ≤ x then (2 * x).toNat else (-2 * x - 1).toNat
theorem zig_lt {x : Int} (h : -9223372036854775808 ≤ x ∧ x < 9223372036854775808) : zig x < 18446744073709551616 := by
  unfold zig
  split <;> omega

/-- What a call that makes the code of bytes makes: a row of its own. -/
def CodeB (bs : List Int) (w : World) (e : Ending) (w' : World) : Prop := ∃ v c, e = .returned v ∧ BOwn w' w.heap.size v (c ++ bs) ∧ IsCode c bs.length ∧ Below w.heap.size w w'

end Go.Proofs.Ytfnhaenoaneoeab

/-
  What stage 9's laws ask of the program's reader.
-/
import Derived.Test.YtfnhaenoaneoeaaP9LawsO
import Derived.Test.YtfnhaenoaneoeaaRef9D
namespace Go.Proofs.Ytfnhaenoaneoeaa
open Go.RowKit

/-- At tells where a reader of the program's lies, and which bytes are not read. -/
structure RdN9 (At : World → Nat → List Int → Prop) : Prop where
  lt : ∀ {w : World} {g : Nat} {L : List Int}, At w g L → g < w.heap.size
  head : ∀ {w : World} {g : Nat} {L : List Int}, At w g L → Head w g
  below : ∀ {w w' : World} {g : Nat} {L : List Int}, At w g L → Below w.heap.size w w' → At w' g L
  apart : ∀ {w w' : World} {g k : Nat} {L : List Int}, At w g L → w.grownBy w' (some k) → Head w k → g ≠ k → At w' g L
  new : ∀ (a : Option Addr) (l c : Nat) (bs : List Int) (w : World), Byts w a l c bs → (a = none → c = 0) → l ≤ 140737488355300 → Calls Try.prog 15 #[.slice a l c] w fun e w' => ∃ g, e = .returned (.pointer (some ⟨g, 0, none⟩)) ∧ w.heap.size ≤ g ∧ At w' g bs ∧ Below w.heap.size w w'
  left : ∀ (g : Nat) (L : List Int) (w : World), At w g L → Calls Try.prog 22 #[.pointer (some ⟨g, 0, none⟩)] w fun e w' => e = .returned (.int .i64 (L.length : Int)) ∧ Below w.heap.size w w'
  num : ∀ (g : Nat) (L : List Int) (most : Nat) (w : World), At w g L → most < 18446744073709551616 → Calls Try.prog 16 #[.pointer (some ⟨g, 0, none⟩), .int .u64 most] w fun e w' => NumT At w g L most e w'
structure RdOk9 (At : World → Nat → List Int → Prop) : Prop extends RdN9 At where
  int : ∀ (g : Nat) (L : List Int) (most : Int) (w : World), At w g L → -9223372036854775808 ≤ most ∧ most < 9223372036854775808 → Calls Try.prog 18 #[.pointer (some ⟨g, 0, none⟩), .int .i64 most] w fun e w' => IntT At w g L most e w'
  byt : ∀ (g : Nat) (L : List Int) (most : Int) (w : World), At w g L → -9223372036854775808 ≤ most ∧ most < 9223372036854775808 → Calls Try.prog 20 #[.pointer (some ⟨g, 0, none⟩), .int .i64 most] w fun e w' => BytT At w g L most e w'
end Go.Proofs.Ytfnhaenoaneoeaa

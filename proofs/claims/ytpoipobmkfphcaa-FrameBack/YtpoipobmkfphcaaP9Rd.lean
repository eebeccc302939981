/-
  What stage 9's laws ask of the program's reader.
-/
import Derived.Test.YtpoipobmkfphcaaP9LawsO
import Derived.Test.YtpoipobmkfphcaaRef9D
namespace Go.Proofs.Ytpoipobmkfphcaa
open Go.RowKit

/-- At tells where a reader of the program's lies, and which bytes are not read. -/
structure RdN9 (At : World → Nat → List Int → Prop) : Prop where
  lt : ∀ {w : World} {g : Nat} {L : List Int}, At w g L → g < w.heap.size
  head : ∀ {w : World} {g : Nat} {L : List Int}, At w g L → Head w g
  below : ∀ {w w' : World} {g : Nat} {L : List Int}, At w g L → Below w.heap.size w w' → At w' g L
  apart : ∀ {w w' : World} {g k : Nat} {L : List Int}, At w g L → w.grownBy w' (some k) → Head w k → g ≠ k → At w' g L
  new : ∀ (a : Option Addr) (l c : Nat) (bs : List Int) (w : World), Byts w a l c bs → (a = none → c = 0) → l ≤ 140737488355300 → Calls Try.prog 28 #[.slice a l c] w fun e w' => ∃ g, e = .returned (.pointer (some ⟨g, 0, none⟩)) ∧ w.heap.size ≤ g ∧ At w' g bs ∧ Below w.heap.size w w'
  left : ∀ (g : Nat) (L : List Int) (w : World), At w g L → Calls Try.prog 37 #[.pointer (some ⟨g, 0, none⟩)] w fun e w' => e = .returned (.int .i64 (L.length : Int)) ∧ Below w.heap.size w w'
  num : ∀ (g : Nat) (L : List Int) (most : Nat) (w : World), At w g L → most < 18446744073709551616 → Calls Try.prog 35 #[.pointer (some ⟨g, 0, none⟩), .int .u64 most] w fun e w' => NumT At w g L most e w'
end Go.Proofs.Ytpoipobmkfphcaa

/-
  What stage 6's laws ask of the program's functions; the contract of awake.
-/
import Derived.Test.YtambpcgdaogojabGreatP6Few
import Derived.Test.YtambpcgdaogojabGreatP6Ans
namespace Go.Proofs.YtambpcgdaogojabGreat
open Go.RowKit

/-- The program hides a number behind another one. -/
def EncOk : Prop := ∀ (a b d : Option Addr) (la ca lb cb ld cd : Nat) (ns ys zs : List Int) (w : World), Nums w a la ca ns → Nums w b lb cb ys → Nums w d ld cd zs → Calls Tryz.prog 24 #[.slice a la ca, .slice b lb cb, .slice d ld cd] w fun e w' => TripT (encF ns ys zs) (encV ns ys zs) w e w'
/-- The program puts two cipher texts together. -/
def AddOk : Prop := ∀ (a b d : Option Addr) (la ca lb cb ld cd : Nat) (ns ys zs : List Int) (w : World), Nums w a la ca ns → Nums w b lb cb ys → Nums w d ld cd zs → Calls Tryz.prog 9 #[.slice a la ca, .slice b lb cb, .slice d ld cd] w fun e w' => TripT (addF ns ys zs) (addV ns ys zs) w e w'
/-- The program tells a key's public part. -/
def PubOk : Prop := ∀ (P Q : Nat) (w : World), P < 18446744073709551616 → Q < 18446744073709551616 → Calls Tryz.prog 4 #[.agg #[.int .u64 (P : Int), .int .u64 (Q : Int)]] w fun e w' => PubT P Q w e w'
/-- The program tells whether a number may be a public key. -/
def MayOk : Prop := ∀ (a : Option Addr) (la ca : Nat) (ns : List Int) (w : World), Nums w a la ca ns → Calls Tryz.prog 49 #[.slice a la ca] w fun e w' => e = .returned (.bool (pubB ns)) ∧ Below w.heap.size w w'
/-- The program tells what a cipher text hides. -/
def DecOk : Prop := ∀ (P Q : Nat) (a : Option Addr) (la ca : Nat) (cs : List Int) (w : World), P < 18446744073709551616 → Q < 18446744073709551616 → Nums w a la ca cs → Calls Tryz.prog 10 #[.agg #[.int .u64 (P : Int), .int .u64 (Q : Int)], .slice a la ca] w fun e w' => DecT P Q cs w e w'
end Go.Proofs.YtambpcgdaogojabGreat

/-
  DERIVED. GIVEN WITH THE SEED: THE CARDS: each row of YtmkohcchgnaboaaDoorRows.lean that lists a variable, with what it lists TIED to the program's text (the seventh form; the later family's looks); each row that meets fmt, with fmt's text TOLD by the authors' own Lean function (tested against real Go, not proved from fmt's source: count such statements apart). THE CARD IS WHAT COUNTS. Prove the row's statement (the work); the ties are given (YtmkohcchgnaboaaDoorTie.lean); close each card by the builder's one call (the guide's Derived/Test/ToyasCard.lean, 'card_holds'). Laid BY PROGRAM, IN A SANDBOX (cutbox-door.mjs). By AI agents, Wed Nov 11 2026. No macro, syntax, notation, axiom, sorry.
-/
import Derived.Test.YtmkohcchgnaboaaDoorRows
import GoSem.ClaimSeven
namespace Go.Proofs.YtmkohcchgnaboaaDoor
namespace Rows

/-- THE TIED CARD OF 'windbreaklaw05.PrimeHonest'. -/
def primeHonestCard : Claim7 := { stood := { row := primeHonestRow, standIns := [], harness := (true, "ee5c3eba81403546df5c7ac3d514bb0b3efe429bc6f2fdec03be2d6a8c1c0fc9"), looks := false }, kinds := [], alts := [], laidByText := true, laidKinds := [.data], laidTests := true, laidLooks := .later }
def PrimeHonestCardSaid : Prop := Claim7.holds Tryd.pinned (.plain (OpenSpec.ofChange primeHonestSpec)) primeHonestCard

/-- THE TIED CARD OF 'windbreaklaw05.PrimeWitness'. -/
def primeWitnessCard : Claim7 := { stood := { row := primeWitnessRow, standIns := [], harness := (true, "ee5c3eba81403546df5c7ac3d514bb0b3efe429bc6f2fdec03be2d6a8c1c0fc9"), looks := false }, kinds := [], alts := [], laidByText := true, laidKinds := [.data], laidTests := true, laidLooks := .later }
def PrimeWitnessCardSaid : Prop := Claim7.holds Tryd.pinned (.plain (OpenSpec.ofChange primeWitnessSpec)) primeWitnessCard

/-- THE SECOND FORM's CARD OF 'windbreaklaw05.PrimeHonest'. -/
def primeHonestUptoCard : Claim7 := { stood := { row := primeHonestUptoRow, standIns := [], harness := (true, "ee5c3eba81403546df5c7ac3d514bb0b3efe429bc6f2fdec03be2d6a8c1c0fc9"), looks := false }, kinds := [], alts := [], laidByText := true, laidKinds := [.data], laidTests := true, laidLooks := .later }
def PrimeHonestUptoCardSaid : Prop := Claim7.holds Tryd.pinned (.plain (OpenSpec.upto primeHonestSpec)) primeHonestUptoCard

/-- THE SECOND FORM's CARD OF 'windbreaklaw05.PrimeWitness'. -/
def primeWitnessUptoCard : Claim7 := { stood := { row := primeWitnessUptoRow, standIns := [], harness := (true, "ee5c3eba81403546df5c7ac3d514bb0b3efe429bc6f2fdec03be2d6a8c1c0fc9"), looks := false }, kinds := [], alts := [], laidByText := true, laidKinds := [.data], laidTests := true, laidLooks := .later }
def PrimeWitnessUptoCardSaid : Prop := Claim7.holds Tryd.pinned (.plain (OpenSpec.upto primeWitnessSpec)) primeWitnessUptoCard
end Rows
end Go.Proofs.YtmkohcchgnaboaaDoor

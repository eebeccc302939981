/-
  No cell of these rows narrows 'for every input' (looked for: loops, veiled, ifaces, maps, wideKeys, modest, calm, conditions, laid).
  DERIVED. THE GIVEN ROWS OF THIS SEAT. 4 by the template 'for every input the law returns true; each argument reads behind the call as it read before'; 0 by the template 'total and deterministic' (their statements: YtmkohcchgnaboaaTotals.lean).
  GIVEN WITH THE SEED: the statements are not yours to turn. If you find one false, say at which input.
  Laid BY PROGRAM, IN A SANDBOX (cutbox-rows.mjs): the forced cells as the released guide's own fill.sh prints them over the translation 2b5f4dbc36103b89… (all of the seat's roots in one cut). By AI agents, Wed Nov 11 2026. No macro, syntax, notation, axiom, sorry.
-/
import Derived.Test.YtmkohcchgnaboaaChecked
import GoSem.Claim
import GoSem.ClaimJoined
import GoSem.ClaimMapViews
import Derived.JoinedTies
import Derived.KernelRfl
namespace Go.Proofs.Ytmkohcchgnaboaa
/- THE CELL 'sum', in the pinned program and in every row, IS THE sha256 OF THE DUMP (.gsa) THAT YtmkohcchgnaboaaProg.lean LOADS. Nothing in Lean hashes anything: it is a label: what it is worth is what the hold of that sum in a sandbox is worth. -/
noncomputable def Try.pinned : Pinned := { name := "ytmkohcchgnaboaa", sum := "2b5f4dbc36103b897c14415958b9352259b1e75f2c88692668cff185cd07851d", checked := Try.checked }
namespace Rows
def none {H : Type} : Left H := { results := [], args := [] }

/-- 'windbreaklaw05.PrimeTells': WHATEVER THE INPUT: true; the input reads as it did. -/
def primeTellsSpec : ChangeSpec := { name := "primeTells", fn := fun _ => fun
  | [d] => { results := [.lit (.bool true)], args := [d] }
  | _ => none }
def primeTellsRow : OpenClaim := { program := "ytmkohcchgnaboaa", sum := "2b5f4dbc36103b897c14415958b9352259b1e75f2c88692668cff185cd07851d", func := "windbreak/windbreaklaw05.PrimeTells", spec := "primeTells", unfollowed := true, recurses := true, apart := false }
def PrimeTellsSaid : Prop := primeTellsRow.holds Try.pinned (OpenSpec.ofChange primeTellsSpec)

/-- ITS FALSE NEIGHBOUR: 'it returns false'. Refute it at one input. -/
def primeTellsWrong : ChangeSpec := { name := "primeTells", fn := fun _ => fun
  | [d] => { results := [.lit (.bool false)], args := [d] }
  | _ => none }
def PrimeTellsWrongFalsely : Prop := primeTellsRow.holds Try.pinned (OpenSpec.ofChange primeTellsWrong)

/-- 'windbreaklaw05.PrimeLeast': WHATEVER THE INPUT: true; the input reads as it did. -/
def primeLeastSpec : ChangeSpec := { name := "primeLeast", fn := fun _ => fun
  | [d] => { results := [.lit (.bool true)], args := [d] }
  | _ => none }
def primeLeastRow : OpenClaim := { program := "ytmkohcchgnaboaa", sum := "2b5f4dbc36103b897c14415958b9352259b1e75f2c88692668cff185cd07851d", func := "windbreak/windbreaklaw05.PrimeLeast", spec := "primeLeast", unfollowed := true, recurses := true, apart := false }
def PrimeLeastSaid : Prop := primeLeastRow.holds Try.pinned (OpenSpec.ofChange primeLeastSpec)

/-- ITS FALSE NEIGHBOUR: 'it returns false'. Refute it at one input. -/
def primeLeastWrong : ChangeSpec := { name := "primeLeast", fn := fun _ => fun
  | [d] => { results := [.lit (.bool false)], args := [d] }
  | _ => none }
def PrimeLeastWrongFalsely : Prop := primeLeastRow.holds Try.pinned (OpenSpec.ofChange primeLeastWrong)

/-- 'windbreaklaw05.PrimeParts': WHATEVER THE INPUT: true; the input reads as it did. -/
def primePartsSpec : ChangeSpec := { name := "primeParts", fn := fun _ => fun
  | [d] => { results := [.lit (.bool true)], args := [d] }
  | _ => none }
def primePartsRow : OpenClaim := { program := "ytmkohcchgnaboaa", sum := "2b5f4dbc36103b897c14415958b9352259b1e75f2c88692668cff185cd07851d", func := "windbreak/windbreaklaw05.PrimeParts", spec := "primeParts", unfollowed := true, recurses := true, apart := false }
def PrimePartsSaid : Prop := primePartsRow.holds Try.pinned (OpenSpec.ofChange primePartsSpec)

/-- ITS FALSE NEIGHBOUR: 'it returns false'. Refute it at one input. -/
def primePartsWrong : ChangeSpec := { name := "primeParts", fn := fun _ => fun
  | [d] => { results := [.lit (.bool false)], args := [d] }
  | _ => none }
def PrimePartsWrongFalsely : Prop := primePartsRow.holds Try.pinned (OpenSpec.ofChange primePartsWrong)

/-- 'windbreaklaw05.PrimeSearches': WHATEVER THE INPUT: true; the input reads as it did. -/
def primeSearchesSpec : ChangeSpec := { name := "primeSearches", fn := fun _ => fun
  | [d1, d2, d3] => { results := [.lit (.bool true)], args := [d1, d2, d3] }
  | _ => none }
def primeSearchesRow : OpenClaim := { program := "ytmkohcchgnaboaa", sum := "2b5f4dbc36103b897c14415958b9352259b1e75f2c88692668cff185cd07851d", func := "windbreak/windbreaklaw05.PrimeSearches", spec := "primeSearches", unfollowed := true, recurses := true, apart := false }
def PrimeSearchesSaid : Prop := primeSearchesRow.holds Try.pinned (OpenSpec.ofChange primeSearchesSpec)

/-- ITS FALSE NEIGHBOUR: 'it returns false'. Refute it at one input. -/
def primeSearchesWrong : ChangeSpec := { name := "primeSearches", fn := fun _ => fun
  | [d1, d2, d3] => { results := [.lit (.bool false)], args := [d1, d2, d3] }
  | _ => none }
def PrimeSearchesWrongFalsely : Prop := primeSearchesRow.holds Try.pinned (OpenSpec.ofChange primeSearchesWrong)

/- THE SECOND FORM. 'bulk': how many values and letters a reading holds, each counted each time it is reached (what is shared counts as often as it is met; a slice's spare places count too). A statement '..UptoSaid' is the law's where the arguments, and the package variables that the reading takes, are together of bulk at most 1048576: NARROWER than '..Said'. Prove '..Said' where nothing that the law and all that it calls make is longer than what came in: it says more and counts as full. Else prove '..UptoSaid'. A law counts once. -/
mutual
def uptoBulk {H : Type} : DataW H → Nat
  | .lit (.string bytes) => bytes.length + 1
  | .lit _ => 1
  | .nil => 1
  | .ptr d => uptoBulk d + 1
  | .slice elems spare => uptoBulkAll elems + uptoBulkAll spare + 1
  | .agg parts => uptoBulkAll parts + 1
  | .iface _ d => uptoBulk d + 1
  | .map entries => uptoBulkEntries entries + 1
  | .held _ => 1
def uptoBulkAll {H : Type} : List (DataW H) → Nat
  | [] => 0
  | d :: r => uptoBulk d + uptoBulkAll r
def uptoBulkEntries {H : Type} : List (Lit × DataW H) → Nat
  | [] => 0
  | x :: r => uptoBulkEntry x + uptoBulkEntries r
def uptoBulkEntry {H : Type} : Lit × DataW H → Nat
  | (.string bytes, d) => bytes.length + uptoBulk d + 1
  | (_, d) => uptoBulk d + 1
 end
def uptoSmall : (H : Type) → List (DataW H) → Bool := fun _ ds => decide (uptoBulkAll ds ≤ 1048576)
def OpenSpec.upto (s : _root_.Go.ChangeSpec) : _root_.Go.OpenSpec := { _root_.Go.OpenSpec.ofChange s with cond := some uptoSmall }

/-- 'windbreaklaw05.PrimeTells', WHERE WHAT IT READS IS OF BULK AT MOST 1048576: true; the input reads as it did. -/
def primeTellsUptoRow : OpenClaim := { program := "ytmkohcchgnaboaa", sum := "2b5f4dbc36103b897c14415958b9352259b1e75f2c88692668cff185cd07851d", func := "windbreak/windbreaklaw05.PrimeTells", spec := "primeTells", unfollowed := true, recurses := true, apart := false, narrowed := true }
def PrimeTellsUptoSaid : Prop := primeTellsUptoRow.holds Try.pinned (OpenSpec.upto primeTellsSpec)

/-- 'windbreaklaw05.PrimeLeast', WHERE WHAT IT READS IS OF BULK AT MOST 1048576: true; the input reads as it did. -/
def primeLeastUptoRow : OpenClaim := { program := "ytmkohcchgnaboaa", sum := "2b5f4dbc36103b897c14415958b9352259b1e75f2c88692668cff185cd07851d", func := "windbreak/windbreaklaw05.PrimeLeast", spec := "primeLeast", unfollowed := true, recurses := true, apart := false, narrowed := true }
def PrimeLeastUptoSaid : Prop := primeLeastUptoRow.holds Try.pinned (OpenSpec.upto primeLeastSpec)

/-- 'windbreaklaw05.PrimeParts', WHERE WHAT IT READS IS OF BULK AT MOST 1048576: true; the input reads as it did. -/
def primePartsUptoRow : OpenClaim := { program := "ytmkohcchgnaboaa", sum := "2b5f4dbc36103b897c14415958b9352259b1e75f2c88692668cff185cd07851d", func := "windbreak/windbreaklaw05.PrimeParts", spec := "primeParts", unfollowed := true, recurses := true, apart := false, narrowed := true }
def PrimePartsUptoSaid : Prop := primePartsUptoRow.holds Try.pinned (OpenSpec.upto primePartsSpec)

/-- 'windbreaklaw05.PrimeSearches', WHERE WHAT IT READS IS OF BULK AT MOST 1048576: true; the input reads as it did. -/
def primeSearchesUptoRow : OpenClaim := { program := "ytmkohcchgnaboaa", sum := "2b5f4dbc36103b897c14415958b9352259b1e75f2c88692668cff185cd07851d", func := "windbreak/windbreaklaw05.PrimeSearches", spec := "primeSearches", unfollowed := true, recurses := true, apart := false, narrowed := true }
def PrimeSearchesUptoSaid : Prop := primeSearchesUptoRow.holds Try.pinned (OpenSpec.upto primeSearchesSpec)

end Rows
end Go.Proofs.Ytmkohcchgnaboaa

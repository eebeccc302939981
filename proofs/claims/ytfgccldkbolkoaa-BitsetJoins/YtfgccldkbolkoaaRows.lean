/-
  No cell of these rows narrows 'for every input' (looked for: loops, veiled, ifaces, maps, wideKeys, modest, calm, conditions, laid).
  DERIVED. THE GIVEN ROWS OF THIS SEAT. 3 by the template 'for every input the law returns true; each argument reads behind the call as it read before'; 0 by the template 'total and deterministic' (their statements: YtfgccldkbolkoaaTotals.lean).
  GIVEN WITH THE SEED: the statements are not yours to turn. If you find one false, say at which input.
  Laid BY PROGRAM, IN A SANDBOX (cutbox-rows.mjs): the forced cells as the released guide's own fill.sh prints them over the translation 2903cd141e9aabd5… (all of the seat's roots in one cut). By AI agents, Wed Nov 11 2026. No macro, syntax, notation, axiom, sorry.
-/
import Derived.Test.YtfgccldkbolkoaaChecked
import GoSem.Claim
import GoSem.ClaimJoined
import GoSem.ClaimMapViews
import Derived.JoinedTies
import Derived.KernelRfl
namespace Go.Proofs.Ytfgccldkbolkoaa
/- THE CELL 'sum', in the pinned program and in every row, IS THE sha256 OF THE DUMP (.gsa) THAT YtfgccldkbolkoaaProg.lean LOADS. Nothing in Lean hashes anything: it is a label: what it is worth is what the hold of that sum in a sandbox is worth. -/
noncomputable def Try.pinned : Pinned := { name := "ytfgccldkbolkoaa", sum := "2903cd141e9aabd53c81c63e8ea02cc7efd7dda1fbbc4328cced220db2c735d3", checked := Try.checked }
namespace Rows
def none {H : Type} : Left H := { results := [], args := [] }

/-- 'windbreaklaw14.BitsetMakes': WHATEVER THE INPUT: true; the input reads as it did. -/
def bitsetMakesSpec : ChangeSpec := { name := "bitsetMakes", fn := fun _ => fun
  | [d1, d2] => { results := [.lit (.bool true)], args := [d1, d2] }
  | _ => none }
def bitsetMakesRow : OpenClaim := { program := "ytfgccldkbolkoaa", sum := "2903cd141e9aabd53c81c63e8ea02cc7efd7dda1fbbc4328cced220db2c735d3", func := "windbreak/windbreaklaw14.BitsetMakes", spec := "bitsetMakes", apart := false }
def BitsetMakesSaid : Prop := bitsetMakesRow.holds Try.pinned (OpenSpec.ofChange bitsetMakesSpec)

/-- ITS FALSE NEIGHBOUR: 'it returns false'. Refute it at one input. -/
def bitsetMakesWrong : ChangeSpec := { name := "bitsetMakes", fn := fun _ => fun
  | [d1, d2] => { results := [.lit (.bool false)], args := [d1, d2] }
  | _ => none }
def BitsetMakesWrongFalsely : Prop := bitsetMakesRow.holds Try.pinned (OpenSpec.ofChange bitsetMakesWrong)

/-- 'windbreaklaw14.BitsetJoins': WHATEVER THE INPUT: true; the input reads as it did. -/
def bitsetJoinsSpec : ChangeSpec := { name := "bitsetJoins", fn := fun _ => fun
  | [d1, d2] => { results := [.lit (.bool true)], args := [d1, d2] }
  | _ => none }
def bitsetJoinsRow : OpenClaim := { program := "ytfgccldkbolkoaa", sum := "2903cd141e9aabd53c81c63e8ea02cc7efd7dda1fbbc4328cced220db2c735d3", func := "windbreak/windbreaklaw14.BitsetJoins", spec := "bitsetJoins", unfollowed := true, recurses := true, apart := false }
def BitsetJoinsSaid : Prop := bitsetJoinsRow.holds Try.pinned (OpenSpec.ofChange bitsetJoinsSpec)

/-- ITS FALSE NEIGHBOUR: 'it returns false'. Refute it at one input. -/
def bitsetJoinsWrong : ChangeSpec := { name := "bitsetJoins", fn := fun _ => fun
  | [d1, d2] => { results := [.lit (.bool false)], args := [d1, d2] }
  | _ => none }
def BitsetJoinsWrongFalsely : Prop := bitsetJoinsRow.holds Try.pinned (OpenSpec.ofChange bitsetJoinsWrong)

/-- 'windbreaklaw14.BitsetParts': WHATEVER THE INPUT: true; the input reads as it did. -/
def bitsetPartsSpec : ChangeSpec := { name := "bitsetParts", fn := fun _ => fun
  | [d1, d2] => { results := [.lit (.bool true)], args := [d1, d2] }
  | _ => none }
def bitsetPartsRow : OpenClaim := { program := "ytfgccldkbolkoaa", sum := "2903cd141e9aabd53c81c63e8ea02cc7efd7dda1fbbc4328cced220db2c735d3", func := "windbreak/windbreaklaw14.BitsetParts", spec := "bitsetParts", unfollowed := true, recurses := true, apart := false }
def BitsetPartsSaid : Prop := bitsetPartsRow.holds Try.pinned (OpenSpec.ofChange bitsetPartsSpec)

/-- ITS FALSE NEIGHBOUR: 'it returns false'. Refute it at one input. -/
def bitsetPartsWrong : ChangeSpec := { name := "bitsetParts", fn := fun _ => fun
  | [d1, d2] => { results := [.lit (.bool false)], args := [d1, d2] }
  | _ => none }
def BitsetPartsWrongFalsely : Prop := bitsetPartsRow.holds Try.pinned (OpenSpec.ofChange bitsetPartsWrong)

/- THE SECOND FORM. 'bulk': how many values and letters a reading holds, each counted each time it is reached (what is shared counts as often as it is met; a slice's spare places count too). A statement '..UptoSaid' is the law's where the arguments, and the package variables that the reading takes, are together of bulk at most 1048576: NARROWER than '..Said'. Prove '..Said' where nothing that the law and all that it calls make is longer than what came in: it says more and counts as full. Else prove '..UptoSaid'. A law counts once. -/
mutual
def uptoBulk {H : Type} : DataW H → Nat
  | .lit (.string bytes) => bytes.length + 1
  | .lit _ => 1
  | .nil => 1
  | .ptr d => uptoBulk d + 1
  | .slice elems spare => uptoBulkAll elems + uptoBulkAll spare + 1
  | .agg parts => uptoBulkAll parts + 1
  | .iface _ d => uptoBulk d + 1
  | .map entries => uptoBulkEntries entries + 1
  | .held _ => 1
def uptoBulkAll {H : Type} : List (DataW H) → Nat
  | [] => 0
  | d :: r => uptoBulk d + uptoBulkAll r
def uptoBulkEntries {H : Type} : List (Lit × DataW H) → Nat
  | [] => 0
  | x :: r => uptoBulkEntry x + uptoBulkEntries r
def uptoBulkEntry {H : Type} : Lit × DataW H → Nat
  | (.string bytes, d) => bytes.length + uptoBulk d + 1
  | (_, d) => uptoBulk d + 1
 end
def uptoSmall : (H : Type) → List (DataW H) → Bool := fun _ ds => decide (uptoBulkAll ds ≤ 1048576)
def OpenSpec.upto (s : _root_.Go.ChangeSpec) : _root_.Go.OpenSpec := { _root_.Go.OpenSpec.ofChange s with cond := some uptoSmall }

/-- 'windbreaklaw14.BitsetMakes', WHERE WHAT IT READS IS OF BULK AT MOST 1048576: true; the input reads as it did. -/
def bitsetMakesUptoRow : OpenClaim := { program := "ytfgccldkbolkoaa", sum := "2903cd141e9aabd53c81c63e8ea02cc7efd7dda1fbbc4328cced220db2c735d3", func := "windbreak/windbreaklaw14.BitsetMakes", spec := "bitsetMakes", apart := false, narrowed := true }
def BitsetMakesUptoSaid : Prop := bitsetMakesUptoRow.holds Try.pinned (OpenSpec.upto bitsetMakesSpec)

/-- 'windbreaklaw14.BitsetJoins', WHERE WHAT IT READS IS OF BULK AT MOST 1048576: true; the input reads as it did. -/
def bitsetJoinsUptoRow : OpenClaim := { program := "ytfgccldkbolkoaa", sum := "2903cd141e9aabd53c81c63e8ea02cc7efd7dda1fbbc4328cced220db2c735d3", func := "windbreak/windbreaklaw14.BitsetJoins", spec := "bitsetJoins", unfollowed := true, recurses := true, apart := false, narrowed := true }
def BitsetJoinsUptoSaid : Prop := bitsetJoinsUptoRow.holds Try.pinned (OpenSpec.upto bitsetJoinsSpec)

/-- 'windbreaklaw14.BitsetParts', WHERE WHAT IT READS IS OF BULK AT MOST 1048576: true; the input reads as it did. -/
def bitsetPartsUptoRow : OpenClaim := { program := "ytfgccldkbolkoaa", sum := "2903cd141e9aabd53c81c63e8ea02cc7efd7dda1fbbc4328cced220db2c735d3", func := "windbreak/windbreaklaw14.BitsetParts", spec := "bitsetParts", unfollowed := true, recurses := true, apart := false, narrowed := true }
def BitsetPartsUptoSaid : Prop := bitsetPartsUptoRow.holds Try.pinned (OpenSpec.upto bitsetPartsSpec)

end Rows
end Go.Proofs.Ytfgccldkbolkoaa

/-
  No cell of these rows narrows 'for every input' (looked for: loops, veiled, ifaces, maps, wideKeys, modest, calm, conditions, laid).
  DERIVED. THE GIVEN ROWS OF THIS SEAT. 6 by the template 'for every input the law returns true; each argument reads behind the call as it read before'; 0 by the template 'total and deterministic' (their statements: YtaipkganijofjabTotals.lean).
  GIVEN WITH THE SEED: the statements are not yours to turn. If you find one false, say at which input.
  Laid BY PROGRAM, IN A SANDBOX (cutbox-rows.mjs): the forced cells as the released guide's own fill.sh prints them over the translation 5c914ffa80e1f58f… (all of the seat's roots in one cut). By AI agents, Wed Nov 11 2026. No macro, syntax, notation, axiom, sorry.
-/
import Derived.Test.YtaipkganijofjabChecked
import GoSem.Claim
import GoSem.ClaimJoined
import GoSem.ClaimMapViews
import Derived.JoinedTies
import Derived.KernelRfl
namespace Go.Proofs.Ytaipkganijofjab
/- THE CELL 'sum', in the pinned program and in every row, IS THE sha256 OF THE DUMP (.gsa) THAT YtaipkganijofjabProg.lean LOADS. Nothing in Lean hashes anything: it is a label: what it is worth is what the hold of that sum in a sandbox is worth. -/
noncomputable def Try.pinned : Pinned := { name := "ytaipkganijofjab", sum := "5c914ffa80e1f58fad53e1e7ad8138a3387fbc34bc1761ec0a36a54c372be90b", checked := Try.checked }
namespace Rows
def none {H : Type} : Left H := { results := [], args := [] }

/-- 'windbreaklaw03.ModintGcds': WHATEVER THE INPUT: true; the input reads as it did. -/
def modintGcdsSpec : ChangeSpec := { name := "modintGcds", fn := fun _ => fun
  | [d1, d2] => { results := [.lit (.bool true)], args := [d1, d2] }
  | _ => none }
def modintGcdsRow : OpenClaim := { program := "ytaipkganijofjab", sum := "5c914ffa80e1f58fad53e1e7ad8138a3387fbc34bc1761ec0a36a54c372be90b", func := "windbreak/windbreaklaw03.ModintGcds", spec := "modintGcds", inPlace := ["math/bits.Add64", "math/bits.Sub64"], unfollowed := true, recurses := true, named := ["math/bits.divideError", "math/bits.overflowError"], apart := false }
def ModintGcdsSaid : Prop := modintGcdsRow.holds Try.pinned (OpenSpec.ofChange modintGcdsSpec)

/-- ITS FALSE NEIGHBOUR: 'it returns false'. Refute it at one input. -/
def modintGcdsWrong : ChangeSpec := { name := "modintGcds", fn := fun _ => fun
  | [d1, d2] => { results := [.lit (.bool false)], args := [d1, d2] }
  | _ => none }
def ModintGcdsWrongFalsely : Prop := modintGcdsRow.holds Try.pinned (OpenSpec.ofChange modintGcdsWrong)

/-- 'windbreaklaw03.ModintInverses': WHATEVER THE INPUT: true; the input reads as it did. -/
def modintInversesSpec : ChangeSpec := { name := "modintInverses", fn := fun _ => fun
  | [d1, d2] => { results := [.lit (.bool true)], args := [d1, d2] }
  | _ => none }
def modintInversesRow : OpenClaim := { program := "ytaipkganijofjab", sum := "5c914ffa80e1f58fad53e1e7ad8138a3387fbc34bc1761ec0a36a54c372be90b", func := "windbreak/windbreaklaw03.ModintInverses", spec := "modintInverses", inPlace := ["math/bits.Add64", "math/bits.Sub64"], unfollowed := true, recurses := true, named := ["math/bits.divideError", "math/bits.overflowError"], apart := false }
def ModintInversesSaid : Prop := modintInversesRow.holds Try.pinned (OpenSpec.ofChange modintInversesSpec)

/-- ITS FALSE NEIGHBOUR: 'it returns false'. Refute it at one input. -/
def modintInversesWrong : ChangeSpec := { name := "modintInverses", fn := fun _ => fun
  | [d1, d2] => { results := [.lit (.bool false)], args := [d1, d2] }
  | _ => none }
def ModintInversesWrongFalsely : Prop := modintInversesRow.holds Try.pinned (OpenSpec.ofChange modintInversesWrong)

/-- 'windbreaklaw03.ModintCrts': WHATEVER THE INPUT: true; the input reads as it did. -/
def modintCrtsSpec : ChangeSpec := { name := "modintCrts", fn := fun _ => fun
  | [d1, d2] => { results := [.lit (.bool true)], args := [d1, d2] }
  | _ => none }
def modintCrtsRow : OpenClaim := { program := "ytaipkganijofjab", sum := "5c914ffa80e1f58fad53e1e7ad8138a3387fbc34bc1761ec0a36a54c372be90b", func := "windbreak/windbreaklaw03.ModintCrts", spec := "modintCrts", inPlace := ["math/bits.Add64", "math/bits.Sub64"], unfollowed := true, recurses := true, named := ["math/bits.divideError", "math/bits.overflowError"], apart := false }
def ModintCrtsSaid : Prop := modintCrtsRow.holds Try.pinned (OpenSpec.ofChange modintCrtsSpec)

/-- ITS FALSE NEIGHBOUR: 'it returns false'. Refute it at one input. -/
def modintCrtsWrong : ChangeSpec := { name := "modintCrts", fn := fun _ => fun
  | [d1, d2] => { results := [.lit (.bool false)], args := [d1, d2] }
  | _ => none }
def ModintCrtsWrongFalsely : Prop := modintCrtsRow.holds Try.pinned (OpenSpec.ofChange modintCrtsWrong)

/-- 'windbreaklaw03.ModintTwice': WHATEVER THE INPUT: true; the input reads as it did. -/
def modintTwiceSpec : ChangeSpec := { name := "modintTwice", fn := fun _ => fun
  | [d1, d2] => { results := [.lit (.bool true)], args := [d1, d2] }
  | _ => none }
def modintTwiceRow : OpenClaim := { program := "ytaipkganijofjab", sum := "5c914ffa80e1f58fad53e1e7ad8138a3387fbc34bc1761ec0a36a54c372be90b", func := "windbreak/windbreaklaw03.ModintTwice", spec := "modintTwice", inPlace := ["math/bits.Add64", "math/bits.Sub64"], unfollowed := true, recurses := true, named := ["math/bits.divideError", "math/bits.overflowError"], apart := false }
def ModintTwiceSaid : Prop := modintTwiceRow.holds Try.pinned (OpenSpec.ofChange modintTwiceSpec)

/-- ITS FALSE NEIGHBOUR: 'it returns false'. Refute it at one input. -/
def modintTwiceWrong : ChangeSpec := { name := "modintTwice", fn := fun _ => fun
  | [d1, d2] => { results := [.lit (.bool false)], args := [d1, d2] }
  | _ => none }
def ModintTwiceWrongFalsely : Prop := modintTwiceRow.holds Try.pinned (OpenSpec.ofChange modintTwiceWrong)

/-- 'windbreaklaw03.ModintLeaves': WHATEVER THE INPUT: true; the input reads as it did. -/
def modintLeavesSpec : ChangeSpec := { name := "modintLeaves", fn := fun _ => fun
  | [d1, d2] => { results := [.lit (.bool true)], args := [d1, d2] }
  | _ => none }
def modintLeavesRow : OpenClaim := { program := "ytaipkganijofjab", sum := "5c914ffa80e1f58fad53e1e7ad8138a3387fbc34bc1761ec0a36a54c372be90b", func := "windbreak/windbreaklaw03.ModintLeaves", spec := "modintLeaves", inPlace := ["math/bits.Add64", "math/bits.Sub64"], unfollowed := true, recurses := true, named := ["math/bits.divideError", "math/bits.overflowError"], apart := false }
def ModintLeavesSaid : Prop := modintLeavesRow.holds Try.pinned (OpenSpec.ofChange modintLeavesSpec)

/-- ITS FALSE NEIGHBOUR: 'it returns false'. Refute it at one input. -/
def modintLeavesWrong : ChangeSpec := { name := "modintLeaves", fn := fun _ => fun
  | [d1, d2] => { results := [.lit (.bool false)], args := [d1, d2] }
  | _ => none }
def ModintLeavesWrongFalsely : Prop := modintLeavesRow.holds Try.pinned (OpenSpec.ofChange modintLeavesWrong)

/-- 'windbreaktop.TopPowers': WHATEVER THE INPUT: true; the input reads as it did. -/
def topPowersSpec : ChangeSpec := { name := "topPowers", fn := fun _ => fun
  | [d1, d2] => { results := [.lit (.bool true)], args := [d1, d2] }
  | _ => none }
def topPowersRow : OpenClaim := { program := "ytaipkganijofjab", sum := "5c914ffa80e1f58fad53e1e7ad8138a3387fbc34bc1761ec0a36a54c372be90b", func := "windbreak/windbreaktop.TopPowers", spec := "topPowers", inPlace := ["math/bits.Add64", "math/bits.Sub64"], unfollowed := true, recurses := true, named := ["math/bits.divideError", "math/bits.overflowError"], apart := false }
def TopPowersSaid : Prop := topPowersRow.holds Try.pinned (OpenSpec.ofChange topPowersSpec)

/-- ITS FALSE NEIGHBOUR: 'it returns false'. Refute it at one input. -/
def topPowersWrong : ChangeSpec := { name := "topPowers", fn := fun _ => fun
  | [d1, d2] => { results := [.lit (.bool false)], args := [d1, d2] }
  | _ => none }
def TopPowersWrongFalsely : Prop := topPowersRow.holds Try.pinned (OpenSpec.ofChange topPowersWrong)

/- THE SECOND FORM. 'bulk': how many values and letters a reading holds, each counted each time it is reached (what is shared counts as often as it is met; a slice's spare places count too). A statement '..UptoSaid' is the law's where the arguments, and the package variables that the reading takes, are together of bulk at most 1048576: NARROWER than '..Said'. Prove '..Said' where nothing that the law and all that it calls make is longer than what came in: it says more and counts as full. Else prove '..UptoSaid'. A law counts once. -/
mutual
def uptoBulk {H : Type} : DataW H → Nat
  | .lit (.string bytes) => bytes.length + 1
  | .lit _ => 1
  | .nil => 1
  | .ptr d => uptoBulk d + 1
  | .slice elems spare => uptoBulkAll elems + uptoBulkAll spare + 1
  | .agg parts => uptoBulkAll parts + 1
  | .iface _ d => uptoBulk d + 1
  | .map entries => uptoBulkEntries entries + 1
  | .held _ => 1
def uptoBulkAll {H : Type} : List (DataW H) → Nat
  | [] => 0
  | d :: r => uptoBulk d + uptoBulkAll r
def uptoBulkEntries {H : Type} : List (Lit × DataW H) → Nat
  | [] => 0
  | x :: r => uptoBulkEntry x + uptoBulkEntries r
def uptoBulkEntry {H : Type} : Lit × DataW H → Nat
  | (.string bytes, d) => bytes.length + uptoBulk d + 1
  | (_, d) => uptoBulk d + 1
 end
def uptoSmall : (H : Type) → List (DataW H) → Bool := fun _ ds => decide (uptoBulkAll ds ≤ 1048576)
def OpenSpec.upto (s : _root_.Go.ChangeSpec) : _root_.Go.OpenSpec := { _root_.Go.OpenSpec.ofChange s with cond := some uptoSmall }

/-- 'windbreaklaw03.ModintGcds', WHERE WHAT IT READS IS OF BULK AT MOST 1048576: true; the input reads as it did. -/
def modintGcdsUptoRow : OpenClaim := { program := "ytaipkganijofjab", sum := "5c914ffa80e1f58fad53e1e7ad8138a3387fbc34bc1761ec0a36a54c372be90b", func := "windbreak/windbreaklaw03.ModintGcds", spec := "modintGcds", inPlace := ["math/bits.Add64", "math/bits.Sub64"], unfollowed := true, recurses := true, named := ["math/bits.divideError", "math/bits.overflowError"], apart := false, narrowed := true }
def ModintGcdsUptoSaid : Prop := modintGcdsUptoRow.holds Try.pinned (OpenSpec.upto modintGcdsSpec)

/-- 'windbreaklaw03.ModintInverses', WHERE WHAT IT READS IS OF BULK AT MOST 1048576: true; the input reads as it did. -/
def modintInversesUptoRow : OpenClaim := { program := "ytaipkganijofjab", sum := "5c914ffa80e1f58fad53e1e7ad8138a3387fbc34bc1761ec0a36a54c372be90b", func := "windbreak/windbreaklaw03.ModintInverses", spec := "modintInverses", inPlace := ["math/bits.Add64", "math/bits.Sub64"], unfollowed := true, recurses := true, named := ["math/bits.divideError", "math/bits.overflowError"], apart := false, narrowed := true }
def ModintInversesUptoSaid : Prop := modintInversesUptoRow.holds Try.pinned (OpenSpec.upto modintInversesSpec)

/-- 'windbreaklaw03.ModintCrts', WHERE WHAT IT READS IS OF BULK AT MOST 1048576: true; the input reads as it did. -/
def modintCrtsUptoRow : OpenClaim := { program := "ytaipkganijofjab", sum := "5c914ffa80e1f58fad53e1e7ad8138a3387fbc34bc1761ec0a36a54c372be90b", func := "windbreak/windbreaklaw03.ModintCrts", spec := "modintCrts", inPlace := ["math/bits.Add64", "math/bits.Sub64"], unfollowed := true, recurses := true, named := ["math/bits.divideError", "math/bits.overflowError"], apart := false, narrowed := true }
def ModintCrtsUptoSaid : Prop := modintCrtsUptoRow.holds Try.pinned (OpenSpec.upto modintCrtsSpec)

/-- 'windbreaklaw03.ModintTwice', WHERE WHAT IT READS IS OF BULK AT MOST 1048576: true; the input reads as it did. -/
def modintTwiceUptoRow : OpenClaim := { program := "ytaipkganijofjab", sum := "5c914ffa80e1f58fad53e1e7ad8138a3387fbc34bc1761ec0a36a54c372be90b", func := "windbreak/windbreaklaw03.ModintTwice", spec := "modintTwice", inPlace := ["math/bits.Add64", "math/bits.Sub64"], unfollowed := true, recurses := true, named := ["math/bits.divideError", "math/bits.overflowError"], apart := false, narrowed := true }
def ModintTwiceUptoSaid : Prop := modintTwiceUptoRow.holds Try.pinned (OpenSpec.upto modintTwiceSpec)

/-- 'windbreaklaw03.ModintLeaves', WHERE WHAT IT READS IS OF BULK AT MOST 1048576: true; the input reads as it did. -/
def modintLeavesUptoRow : OpenClaim := { program := "ytaipkganijofjab", sum := "5c914ffa80e1f58fad53e1e7ad8138a3387fbc34bc1761ec0a36a54c372be90b", func := "windbreak/windbreaklaw03.ModintLeaves", spec := "modintLeaves", inPlace := ["math/bits.Add64", "math/bits.Sub64"], unfollowed := true, recurses := true, named := ["math/bits.divideError", "math/bits.overflowError"], apart := false, narrowed := true }
def ModintLeavesUptoSaid : Prop := modintLeavesUptoRow.holds Try.pinned (OpenSpec.upto modintLeavesSpec)

/-- 'windbreaktop.TopPowers', WHERE WHAT IT READS IS OF BULK AT MOST 1048576: true; the input reads as it did. -/
def topPowersUptoRow : OpenClaim := { program := "ytaipkganijofjab", sum := "5c914ffa80e1f58fad53e1e7ad8138a3387fbc34bc1761ec0a36a54c372be90b", func := "windbreak/windbreaktop.TopPowers", spec := "topPowers", inPlace := ["math/bits.Add64", "math/bits.Sub64"], unfollowed := true, recurses := true, named := ["math/bits.divideError", "math/bits.overflowError"], apart := false, narrowed := true }
def TopPowersUptoSaid : Prop := topPowersUptoRow.holds Try.pinned (OpenSpec.upto topPowersSpec)

end Rows
end Go.Proofs.Ytaipkganijofjab

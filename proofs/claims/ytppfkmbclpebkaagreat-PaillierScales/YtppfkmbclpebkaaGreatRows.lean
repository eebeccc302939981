/-
  No cell of these rows narrows 'for every input' (looked for: loops, veiled, ifaces, maps, wideKeys, modest, calm, conditions, laid).
  DERIVED. THE GIVEN ROWS OF THIS SEAT. 5 by the template 'for every input the law returns true; each argument reads behind the call as it read before'; 0 by the template 'total and deterministic' (their statements: YtppfkmbclpebkaaGreatTotals.lean).
  GIVEN WITH THE SEED: the statements are not yours to turn. If you find one false, say at which input.
  Laid BY PROGRAM, IN A SANDBOX (cutbox-rows.mjs): the forced cells as the released guide's own fill.sh prints them over the translation 5a06b602ad3796b5… (all of the seat's roots in one cut). By AI agents, Wed Nov 11 2026. No macro, syntax, notation, axiom, sorry.
-/
import Derived.Test.YtppfkmbclpebkaaGreatChecked
import GoSem.Claim
import GoSem.ClaimJoined
import GoSem.ClaimMapViews
import Derived.JoinedTies
import Derived.KernelRfl
namespace Go.Proofs.YtppfkmbclpebkaaGreat
/- THE CELL 'sum', in the pinned program and in every row, IS THE sha256 OF THE DUMP (.gsa) THAT YtppfkmbclpebkaaGreatProg.lean LOADS. Nothing in Lean hashes anything: it is a label: what it is worth is what the hold of that sum in a sandbox is worth. -/
noncomputable def Tryz.pinned : Pinned := { name := "ytppfkmbclpebkaagreat", sum := "5a06b602ad3796b59f2ee0b2b308e63e809279a8fbec173de67ccf5ab3d0b38f", checked := Tryz.checked }
namespace Rows
def none {H : Type} : Left H := { results := [], args := [] }

/-- 'windbreaklaw06.PaillierKeys': WHATEVER THE INPUT: true; the input reads as it did. -/
def paillierKeysSpec : ChangeSpec := { name := "paillierKeys", fn := fun _ => fun
  | [d1, d2, d3] => { results := [.lit (.bool true)], args := [d1, d2, d3] }
  | _ => none }
def paillierKeysRow : OpenClaim := { program := "ytppfkmbclpebkaagreat", sum := "5a06b602ad3796b59f2ee0b2b308e63e809279a8fbec173de67ccf5ab3d0b38f", func := "windbreak/windbreaklaw06.PaillierKeys", spec := "paillierKeys", inPlace := ["math/bits.Add64", "math/bits.Sub64"], unfollowed := true, recurses := true, named := ["math/bits.divideError", "math/bits.overflowError"], apart := false }
def PaillierKeysSaid : Prop := paillierKeysRow.holds Tryz.pinned (OpenSpec.ofChange paillierKeysSpec)

/-- ITS FALSE NEIGHBOUR: 'it returns false'. Refute it at one input. -/
def paillierKeysWrong : ChangeSpec := { name := "paillierKeys", fn := fun _ => fun
  | [d1, d2, d3] => { results := [.lit (.bool false)], args := [d1, d2, d3] }
  | _ => none }
def PaillierKeysWrongFalsely : Prop := paillierKeysRow.holds Tryz.pinned (OpenSpec.ofChange paillierKeysWrong)

/-- 'windbreaklaw06.PaillierDraws': WHATEVER THE INPUT: true; the input reads as it did. -/
def paillierDrawsSpec : ChangeSpec := { name := "paillierDraws", fn := fun _ => fun
  | [d1, d2, d3] => { results := [.lit (.bool true)], args := [d1, d2, d3] }
  | _ => none }
def paillierDrawsRow : OpenClaim := { program := "ytppfkmbclpebkaagreat", sum := "5a06b602ad3796b59f2ee0b2b308e63e809279a8fbec173de67ccf5ab3d0b38f", func := "windbreak/windbreaklaw06.PaillierDraws", spec := "paillierDraws", inPlace := ["math/bits.Add64", "math/bits.Sub64"], unfollowed := true, recurses := true, named := ["math/bits.divideError", "math/bits.overflowError"], apart := false }
def PaillierDrawsSaid : Prop := paillierDrawsRow.holds Tryz.pinned (OpenSpec.ofChange paillierDrawsSpec)

/-- ITS FALSE NEIGHBOUR: 'it returns false'. Refute it at one input. -/
def paillierDrawsWrong : ChangeSpec := { name := "paillierDraws", fn := fun _ => fun
  | [d1, d2, d3] => { results := [.lit (.bool false)], args := [d1, d2, d3] }
  | _ => none }
def PaillierDrawsWrongFalsely : Prop := paillierDrawsRow.holds Tryz.pinned (OpenSpec.ofChange paillierDrawsWrong)

/-- 'windbreaklaw06.PaillierSums': WHATEVER THE INPUT: true; the input reads as it did. -/
def paillierSumsSpec : ChangeSpec := { name := "paillierSums", fn := fun _ => fun
  | [d1, d2, d3] => { results := [.lit (.bool true)], args := [d1, d2, d3] }
  | _ => none }
def paillierSumsRow : OpenClaim := { program := "ytppfkmbclpebkaagreat", sum := "5a06b602ad3796b59f2ee0b2b308e63e809279a8fbec173de67ccf5ab3d0b38f", func := "windbreak/windbreaklaw06.PaillierSums", spec := "paillierSums", inPlace := ["math/bits.Add64", "math/bits.Sub64"], unfollowed := true, recurses := true, named := ["math/bits.divideError", "math/bits.overflowError"], apart := false }
def PaillierSumsSaid : Prop := paillierSumsRow.holds Tryz.pinned (OpenSpec.ofChange paillierSumsSpec)

/-- ITS FALSE NEIGHBOUR: 'it returns false'. Refute it at one input. -/
def paillierSumsWrong : ChangeSpec := { name := "paillierSums", fn := fun _ => fun
  | [d1, d2, d3] => { results := [.lit (.bool false)], args := [d1, d2, d3] }
  | _ => none }
def PaillierSumsWrongFalsely : Prop := paillierSumsRow.holds Tryz.pinned (OpenSpec.ofChange paillierSumsWrong)

/-- 'windbreaklaw06.PaillierScales': WHATEVER THE INPUT: true; the input reads as it did. -/
def paillierScalesSpec : ChangeSpec := { name := "paillierScales", fn := fun _ => fun
  | [d1, d2, d3] => { results := [.lit (.bool true)], args := [d1, d2, d3] }
  | _ => none }
def paillierScalesRow : OpenClaim := { program := "ytppfkmbclpebkaagreat", sum := "5a06b602ad3796b59f2ee0b2b308e63e809279a8fbec173de67ccf5ab3d0b38f", func := "windbreak/windbreaklaw06.PaillierScales", spec := "paillierScales", inPlace := ["math/bits.Add64", "math/bits.Sub64"], unfollowed := true, recurses := true, named := ["math/bits.divideError", "math/bits.overflowError"], apart := false }
def PaillierScalesSaid : Prop := paillierScalesRow.holds Tryz.pinned (OpenSpec.ofChange paillierScalesSpec)

/-- ITS FALSE NEIGHBOUR: 'it returns false'. Refute it at one input. -/
def paillierScalesWrong : ChangeSpec := { name := "paillierScales", fn := fun _ => fun
  | [d1, d2, d3] => { results := [.lit (.bool false)], args := [d1, d2, d3] }
  | _ => none }
def PaillierScalesWrongFalsely : Prop := paillierScalesRow.holds Tryz.pinned (OpenSpec.ofChange paillierScalesWrong)

/-- 'windbreaklaw06.PaillierDecrypts': WHATEVER THE INPUT: true; the input reads as it did. -/
def paillierDecryptsSpec : ChangeSpec := { name := "paillierDecrypts", fn := fun _ => fun
  | [d1, d2] => { results := [.lit (.bool true)], args := [d1, d2] }
  | _ => none }
def paillierDecryptsRow : OpenClaim := { program := "ytppfkmbclpebkaagreat", sum := "5a06b602ad3796b59f2ee0b2b308e63e809279a8fbec173de67ccf5ab3d0b38f", func := "windbreak/windbreaklaw06.PaillierDecrypts", spec := "paillierDecrypts", inPlace := ["math/bits.Add64", "math/bits.Sub64"], unfollowed := true, recurses := true, named := ["math/bits.divideError", "math/bits.overflowError"], apart := false }
def PaillierDecryptsSaid : Prop := paillierDecryptsRow.holds Tryz.pinned (OpenSpec.ofChange paillierDecryptsSpec)

/-- ITS FALSE NEIGHBOUR: 'it returns false'. Refute it at one input. -/
def paillierDecryptsWrong : ChangeSpec := { name := "paillierDecrypts", fn := fun _ => fun
  | [d1, d2] => { results := [.lit (.bool false)], args := [d1, d2] }
  | _ => none }
def PaillierDecryptsWrongFalsely : Prop := paillierDecryptsRow.holds Tryz.pinned (OpenSpec.ofChange paillierDecryptsWrong)

/- THE SECOND FORM. 'bulk': how many values and letters a reading holds, each counted each time it is reached (what is shared counts as often as it is met; a slice's spare places count too). A statement '..UptoSaid' is the law's where the arguments, and the package variables that the reading takes, are together of bulk at most 1048576: NARROWER than '..Said'. Prove '..Said' where nothing that the law and all that it calls make is longer than what came in: it says more and counts as full. Else prove '..UptoSaid'. A law counts once. -/
mutual
def uptoBulk {H : Type} : DataW H → Nat
  | .lit (.string bytes) => bytes.length + 1
  | .lit _ => 1
  | .nil => 1
  | .ptr d => uptoBulk d + 1
  | .slice elems spare => uptoBulkAll elems + uptoBulkAll spare + 1
  | .agg parts => uptoBulkAll parts + 1
  | .iface _ d => uptoBulk d + 1
  | .map entries => uptoBulkEntries entries + 1
  | .held _ => 1
def uptoBulkAll {H : Type} : List (DataW H) → Nat
  | [] => 0
  | d :: r => uptoBulk d + uptoBulkAll r
def uptoBulkEntries {H : Type} : List (Lit × DataW H) → Nat
  | [] => 0
  | x :: r => uptoBulkEntry x + uptoBulkEntries r
def uptoBulkEntry {H : Type} : Lit × DataW H → Nat
  | (.string bytes, d) => bytes.length + uptoBulk d + 1
  | (_, d) => uptoBulk d + 1
 end
def uptoSmall : (H : Type) → List (DataW H) → Bool := fun _ ds => decide (uptoBulkAll ds ≤ 1048576)
def OpenSpec.upto (s : _root_.Go.ChangeSpec) : _root_.Go.OpenSpec := { _root_.Go.OpenSpec.ofChange s with cond := some uptoSmall }

/-- 'windbreaklaw06.PaillierKeys', WHERE WHAT IT READS IS OF BULK AT MOST 1048576: true; the input reads as it did. -/
def paillierKeysUptoRow : OpenClaim := { program := "ytppfkmbclpebkaagreat", sum := "5a06b602ad3796b59f2ee0b2b308e63e809279a8fbec173de67ccf5ab3d0b38f", func := "windbreak/windbreaklaw06.PaillierKeys", spec := "paillierKeys", inPlace := ["math/bits.Add64", "math/bits.Sub64"], unfollowed := true, recurses := true, named := ["math/bits.divideError", "math/bits.overflowError"], apart := false, narrowed := true }
def PaillierKeysUptoSaid : Prop := paillierKeysUptoRow.holds Tryz.pinned (OpenSpec.upto paillierKeysSpec)

/-- 'windbreaklaw06.PaillierDraws', WHERE WHAT IT READS IS OF BULK AT MOST 1048576: true; the input reads as it did. -/
def paillierDrawsUptoRow : OpenClaim := { program := "ytppfkmbclpebkaagreat", sum := "5a06b602ad3796b59f2ee0b2b308e63e809279a8fbec173de67ccf5ab3d0b38f", func := "windbreak/windbreaklaw06.PaillierDraws", spec := "paillierDraws", inPlace := ["math/bits.Add64", "math/bits.Sub64"], unfollowed := true, recurses := true, named := ["math/bits.divideError", "math/bits.overflowError"], apart := false, narrowed := true }
def PaillierDrawsUptoSaid : Prop := paillierDrawsUptoRow.holds Tryz.pinned (OpenSpec.upto paillierDrawsSpec)

/-- 'windbreaklaw06.PaillierSums', WHERE WHAT IT READS IS OF BULK AT MOST 1048576: true; the input reads as it did. -/
def paillierSumsUptoRow : OpenClaim := { program := "ytppfkmbclpebkaagreat", sum := "5a06b602ad3796b59f2ee0b2b308e63e809279a8fbec173de67ccf5ab3d0b38f", func := "windbreak/windbreaklaw06.PaillierSums", spec := "paillierSums", inPlace := ["math/bits.Add64", "math/bits.Sub64"], unfollowed := true, recurses := true, named := ["math/bits.divideError", "math/bits.overflowError"], apart := false, narrowed := true }
def PaillierSumsUptoSaid : Prop := paillierSumsUptoRow.holds Tryz.pinned (OpenSpec.upto paillierSumsSpec)

/-- 'windbreaklaw06.PaillierScales', WHERE WHAT IT READS IS OF BULK AT MOST 1048576: true; the input reads as it did. -/
def paillierScalesUptoRow : OpenClaim := { program := "ytppfkmbclpebkaagreat", sum := "5a06b602ad3796b59f2ee0b2b308e63e809279a8fbec173de67ccf5ab3d0b38f", func := "windbreak/windbreaklaw06.PaillierScales", spec := "paillierScales", inPlace := ["math/bits.Add64", "math/bits.Sub64"], unfollowed := true, recurses := true, named := ["math/bits.divideError", "math/bits.overflowError"], apart := false, narrowed := true }
def PaillierScalesUptoSaid : Prop := paillierScalesUptoRow.holds Tryz.pinned (OpenSpec.upto paillierScalesSpec)

/-- 'windbreaklaw06.PaillierDecrypts', WHERE WHAT IT READS IS OF BULK AT MOST 1048576: true; the input reads as it did. -/
def paillierDecryptsUptoRow : OpenClaim := { program := "ytppfkmbclpebkaagreat", sum := "5a06b602ad3796b59f2ee0b2b308e63e809279a8fbec173de67ccf5ab3d0b38f", func := "windbreak/windbreaklaw06.PaillierDecrypts", spec := "paillierDecrypts", inPlace := ["math/bits.Add64", "math/bits.Sub64"], unfollowed := true, recurses := true, named := ["math/bits.divideError", "math/bits.overflowError"], apart := false, narrowed := true }
def PaillierDecryptsUptoSaid : Prop := paillierDecryptsUptoRow.holds Tryz.pinned (OpenSpec.upto paillierDecryptsSpec)

end Rows
end Go.Proofs.YtppfkmbclpebkaaGreat

/-
  No cell of these rows narrows 'for every input' (looked for: loops, veiled, ifaces, maps, wideKeys, modest, calm, conditions, laid).
  DERIVED. THE GIVEN ROWS OF THIS SEAT. 5 by the template 'for every input the law returns true; each argument reads behind the call as it read before'; 0 by the template 'total and deterministic' (their statements: YtpeefhkadeoioaaTotals.lean).
  GIVEN WITH THE SEED: the statements are not yours to turn. If you find one false, say at which input.
  Laid BY PROGRAM, IN A SANDBOX (cutbox-rows.mjs): the forced cells as the released guide's own fill.sh prints them over the translation 948e5ef1949cf029… (all of the seat's roots in one cut). By AI agents, Wed Nov 11 2026. No macro, syntax, notation, axiom, sorry.
-/
import Derived.Test.YtpeefhkadeoioaaChecked
import GoSem.Claim
import GoSem.ClaimJoined
import GoSem.ClaimMapViews
import Derived.JoinedTies
import Derived.KernelRfl
namespace Go.Proofs.Ytpeefhkadeoioaa
/- THE CELL 'sum', in the pinned program and in every row, IS THE sha256 OF THE DUMP (.gsa) THAT YtpeefhkadeoioaaProg.lean LOADS. Nothing in Lean hashes anything: it is a label: what it is worth is what the hold of that sum in a sandbox is worth. -/
noncomputable def Try.pinned : Pinned := { name := "ytpeefhkadeoioaa", sum := "948e5ef1949cf029dfa1efbe6d9c7e1f163f6dc13d171d0ce7520c48951bee07", checked := Try.checked }
namespace Rows
def none {H : Type} : Left H := { results := [], args := [] }

/-- 'windbreaklaw16.LossRights': WHATEVER THE INPUT: true; the input reads as it did. -/
def lossRightsSpec : ChangeSpec := { name := "lossRights", fn := fun _ => fun
  | [d] => { results := [.lit (.bool true)], args := [d] }
  | _ => none }
def lossRightsRow : OpenClaim := { program := "ytpeefhkadeoioaa", sum := "948e5ef1949cf029dfa1efbe6d9c7e1f163f6dc13d171d0ce7520c48951bee07", func := "windbreak/windbreaklaw16.LossRights", spec := "lossRights", apart := false }
def LossRightsSaid : Prop := lossRightsRow.holds Try.pinned (OpenSpec.ofChange lossRightsSpec)

/-- ITS FALSE NEIGHBOUR: 'it returns false'. Refute it at one input. -/
def lossRightsWrong : ChangeSpec := { name := "lossRights", fn := fun _ => fun
  | [d] => { results := [.lit (.bool false)], args := [d] }
  | _ => none }
def LossRightsWrongFalsely : Prop := lossRightsRow.holds Try.pinned (OpenSpec.ofChange lossRightsWrong)

/-- 'windbreaklaw16.LossGrads': WHATEVER THE INPUT: true; the input reads as it did. -/
def lossGradsSpec : ChangeSpec := { name := "lossGrads", fn := fun _ => fun
  | [d1, d2, d3] => { results := [.lit (.bool true)], args := [d1, d2, d3] }
  | _ => none }
def lossGradsRow : OpenClaim := { program := "ytpeefhkadeoioaa", sum := "948e5ef1949cf029dfa1efbe6d9c7e1f163f6dc13d171d0ce7520c48951bee07", func := "windbreak/windbreaklaw16.LossGrads", spec := "lossGrads", apart := false }
def LossGradsSaid : Prop := lossGradsRow.holds Try.pinned (OpenSpec.ofChange lossGradsSpec)

/-- ITS FALSE NEIGHBOUR: 'it returns false'. Refute it at one input. -/
def lossGradsWrong : ChangeSpec := { name := "lossGrads", fn := fun _ => fun
  | [d1, d2, d3] => { results := [.lit (.bool false)], args := [d1, d2, d3] }
  | _ => none }
def LossGradsWrongFalsely : Prop := lossGradsRow.holds Try.pinned (OpenSpec.ofChange lossGradsWrong)

/-- 'windbreaklaw16.LossWeights': WHATEVER THE INPUT: true; the input reads as it did. -/
def lossWeightsSpec : ChangeSpec := { name := "lossWeights", fn := fun _ => fun
  | [d1, d2] => { results := [.lit (.bool true)], args := [d1, d2] }
  | _ => none }
def lossWeightsRow : OpenClaim := { program := "ytpeefhkadeoioaa", sum := "948e5ef1949cf029dfa1efbe6d9c7e1f163f6dc13d171d0ce7520c48951bee07", func := "windbreak/windbreaklaw16.LossWeights", spec := "lossWeights", inPlace := ["math/bits.Add64", "math/bits.Sub64"], unfollowed := true, recurses := true, named := ["math/bits.divideError", "math/bits.overflowError"], apart := false }
def LossWeightsSaid : Prop := lossWeightsRow.holds Try.pinned (OpenSpec.ofChange lossWeightsSpec)

/-- ITS FALSE NEIGHBOUR: 'it returns false'. Refute it at one input. -/
def lossWeightsWrong : ChangeSpec := { name := "lossWeights", fn := fun _ => fun
  | [d1, d2] => { results := [.lit (.bool false)], args := [d1, d2] }
  | _ => none }
def LossWeightsWrongFalsely : Prop := lossWeightsRow.holds Try.pinned (OpenSpec.ofChange lossWeightsWrong)

/-- 'windbreaklaw16.LossRises': WHATEVER THE INPUT: true; the input reads as it did. -/
def lossRisesSpec : ChangeSpec := { name := "lossRises", fn := fun _ => fun
  | [d1, d2, d3] => { results := [.lit (.bool true)], args := [d1, d2, d3] }
  | _ => none }
def lossRisesRow : OpenClaim := { program := "ytpeefhkadeoioaa", sum := "948e5ef1949cf029dfa1efbe6d9c7e1f163f6dc13d171d0ce7520c48951bee07", func := "windbreak/windbreaklaw16.LossRises", spec := "lossRises", apart := false }
def LossRisesSaid : Prop := lossRisesRow.holds Try.pinned (OpenSpec.ofChange lossRisesSpec)

/-- ITS FALSE NEIGHBOUR: 'it returns false'. Refute it at one input. -/
def lossRisesWrong : ChangeSpec := { name := "lossRises", fn := fun _ => fun
  | [d1, d2, d3] => { results := [.lit (.bool false)], args := [d1, d2, d3] }
  | _ => none }
def LossRisesWrongFalsely : Prop := lossRisesRow.holds Try.pinned (OpenSpec.ofChange lossRisesWrong)

/-- 'windbreaklaw16.LossSigns': WHATEVER THE INPUT: true; the input reads as it did. -/
def lossSignsSpec : ChangeSpec := { name := "lossSigns", fn := fun _ => fun
  | [d1, d2] => { results := [.lit (.bool true)], args := [d1, d2] }
  | _ => none }
def lossSignsRow : OpenClaim := { program := "ytpeefhkadeoioaa", sum := "948e5ef1949cf029dfa1efbe6d9c7e1f163f6dc13d171d0ce7520c48951bee07", func := "windbreak/windbreaklaw16.LossSigns", spec := "lossSigns", inPlace := ["math/bits.Add64", "math/bits.Sub64"], unfollowed := true, recurses := true, named := ["math/bits.divideError", "math/bits.overflowError"], apart := false }
def LossSignsSaid : Prop := lossSignsRow.holds Try.pinned (OpenSpec.ofChange lossSignsSpec)

/-- ITS FALSE NEIGHBOUR: 'it returns false'. Refute it at one input. -/
def lossSignsWrong : ChangeSpec := { name := "lossSigns", fn := fun _ => fun
  | [d1, d2] => { results := [.lit (.bool false)], args := [d1, d2] }
  | _ => none }
def LossSignsWrongFalsely : Prop := lossSignsRow.holds Try.pinned (OpenSpec.ofChange lossSignsWrong)

/- THE SECOND FORM. 'bulk': how many values and letters a reading holds, each counted each time it is reached (what is shared counts as often as it is met; a slice's spare places count too). A statement '..UptoSaid' is the law's where the arguments, and the package variables that the reading takes, are together of bulk at most 1048576: NARROWER than '..Said'. Prove '..Said' where nothing that the law and all that it calls make is longer than what came in: it says more and counts as full. Else prove '..UptoSaid'. A law counts once. -/
mutual
def uptoBulk {H : Type} : DataW H → Nat
  | .lit (.string bytes) => bytes.length + 1
  | .lit _ => 1
  | .nil => 1
  | .ptr d => uptoBulk d + 1
  | .slice elems spare => uptoBulkAll elems + uptoBulkAll spare + 1
  | .agg parts => uptoBulkAll parts + 1
  | .iface _ d => uptoBulk d + 1
  | .map entries => uptoBulkEntries entries + 1
  | .held _ => 1
def uptoBulkAll {H : Type} : List (DataW H) → Nat
  | [] => 0
  | d :: r => uptoBulk d + uptoBulkAll r
def uptoBulkEntries {H : Type} : List (Lit × DataW H) → Nat
  | [] => 0
  | x :: r => uptoBulkEntry x + uptoBulkEntries r
def uptoBulkEntry {H : Type} : Lit × DataW H → Nat
  | (.string bytes, d) => bytes.length + uptoBulk d + 1
  | (_, d) => uptoBulk d + 1
 end
def uptoSmall : (H : Type) → List (DataW H) → Bool := fun _ ds => decide (uptoBulkAll ds ≤ 1048576)
def OpenSpec.upto (s : _root_.Go.ChangeSpec) : _root_.Go.OpenSpec := { _root_.Go.OpenSpec.ofChange s with cond := some uptoSmall }

/-- 'windbreaklaw16.LossRights', WHERE WHAT IT READS IS OF BULK AT MOST 1048576: true; the input reads as it did. -/
def lossRightsUptoRow : OpenClaim := { program := "ytpeefhkadeoioaa", sum := "948e5ef1949cf029dfa1efbe6d9c7e1f163f6dc13d171d0ce7520c48951bee07", func := "windbreak/windbreaklaw16.LossRights", spec := "lossRights", apart := false, narrowed := true }
def LossRightsUptoSaid : Prop := lossRightsUptoRow.holds Try.pinned (OpenSpec.upto lossRightsSpec)

/-- 'windbreaklaw16.LossGrads', WHERE WHAT IT READS IS OF BULK AT MOST 1048576: true; the input reads as it did. -/
def lossGradsUptoRow : OpenClaim := { program := "ytpeefhkadeoioaa", sum := "948e5ef1949cf029dfa1efbe6d9c7e1f163f6dc13d171d0ce7520c48951bee07", func := "windbreak/windbreaklaw16.LossGrads", spec := "lossGrads", apart := false, narrowed := true }
def LossGradsUptoSaid : Prop := lossGradsUptoRow.holds Try.pinned (OpenSpec.upto lossGradsSpec)

/-- 'windbreaklaw16.LossWeights', WHERE WHAT IT READS IS OF BULK AT MOST 1048576: true; the input reads as it did. -/
def lossWeightsUptoRow : OpenClaim := { program := "ytpeefhkadeoioaa", sum := "948e5ef1949cf029dfa1efbe6d9c7e1f163f6dc13d171d0ce7520c48951bee07", func := "windbreak/windbreaklaw16.LossWeights", spec := "lossWeights", inPlace := ["math/bits.Add64", "math/bits.Sub64"], unfollowed := true, recurses := true, named := ["math/bits.divideError", "math/bits.overflowError"], apart := false, narrowed := true }
def LossWeightsUptoSaid : Prop := lossWeightsUptoRow.holds Try.pinned (OpenSpec.upto lossWeightsSpec)

/-- 'windbreaklaw16.LossRises', WHERE WHAT IT READS IS OF BULK AT MOST 1048576: true; the input reads as it did. -/
def lossRisesUptoRow : OpenClaim := { program := "ytpeefhkadeoioaa", sum := "948e5ef1949cf029dfa1efbe6d9c7e1f163f6dc13d171d0ce7520c48951bee07", func := "windbreak/windbreaklaw16.LossRises", spec := "lossRises", apart := false, narrowed := true }
def LossRisesUptoSaid : Prop := lossRisesUptoRow.holds Try.pinned (OpenSpec.upto lossRisesSpec)

/-- 'windbreaklaw16.LossSigns', WHERE WHAT IT READS IS OF BULK AT MOST 1048576: true; the input reads as it did. -/
def lossSignsUptoRow : OpenClaim := { program := "ytpeefhkadeoioaa", sum := "948e5ef1949cf029dfa1efbe6d9c7e1f163f6dc13d171d0ce7520c48951bee07", func := "windbreak/windbreaklaw16.LossSigns", spec := "lossSigns", inPlace := ["math/bits.Add64", "math/bits.Sub64"], unfollowed := true, recurses := true, named := ["math/bits.divideError", "math/bits.overflowError"], apart := false, narrowed := true }
def LossSignsUptoSaid : Prop := lossSignsUptoRow.holds Try.pinned (OpenSpec.upto lossSignsSpec)

end Rows
end Go.Proofs.Ytpeefhkadeoioaa

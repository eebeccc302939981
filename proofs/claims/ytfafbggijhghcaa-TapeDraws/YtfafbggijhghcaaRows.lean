/-
  No cell of these rows narrows 'for every input' (looked for: loops, veiled, ifaces, maps, wideKeys, modest, calm, conditions, laid).
  DERIVED. THE GIVEN ROWS OF THIS SEAT. 6 by the template 'for every input the law returns true; each argument reads behind the call as it read before'; 0 by the template 'total and deterministic' (their statements: YtfafbggijhghcaaTotals.lean).
  GIVEN WITH THE SEED: the statements are not yours to turn. If you find one false, say at which input.
  Laid BY PROGRAM, IN A SANDBOX (cutbox-rows.mjs): the forced cells as the released guide's own fill.sh prints them over the translation 1e3f751e6a95f5bd… (all of the seat's roots in one cut). By AI agents, Wed Nov 11 2026. No macro, syntax, notation, axiom, sorry.
-/
import Derived.Test.YtfafbggijhghcaaChecked
import GoSem.Claim
import GoSem.ClaimJoined
import GoSem.ClaimMapViews
import Derived.JoinedTies
import Derived.KernelRfl
namespace Go.Proofs.Ytfafbggijhghcaa
/- THE CELL 'sum', in the pinned program and in every row, IS THE sha256 OF THE DUMP (.gsa) THAT YtfafbggijhghcaaProg.lean LOADS. Nothing in Lean hashes anything: it is a label: what it is worth is what the hold of that sum in a sandbox is worth. -/
noncomputable def Try.pinned : Pinned := { name := "ytfafbggijhghcaa", sum := "1e3f751e6a95f5bdb7f809c954d3d2d8bfe4779377d4c8670ba0e39c1307be9b", checked := Try.checked }
namespace Rows
def none {H : Type} : Left H := { results := [], args := [] }

/-- 'windbreaklaw04.TapeNews': WHATEVER THE INPUT: true; the input reads as it did. -/
def tapeNewsSpec : ChangeSpec := { name := "tapeNews", fn := fun _ => fun
  | [d] => { results := [.lit (.bool true)], args := [d] }
  | _ => none }
def tapeNewsRow : OpenClaim := { program := "ytfafbggijhghcaa", sum := "1e3f751e6a95f5bdb7f809c954d3d2d8bfe4779377d4c8670ba0e39c1307be9b", func := "windbreak/windbreaklaw04.TapeNews", spec := "tapeNews", apart := false }
def TapeNewsSaid : Prop := tapeNewsRow.holds Try.pinned (OpenSpec.ofChange tapeNewsSpec)

/-- ITS FALSE NEIGHBOUR: 'it returns false'. Refute it at one input. -/
def tapeNewsWrong : ChangeSpec := { name := "tapeNews", fn := fun _ => fun
  | [d] => { results := [.lit (.bool false)], args := [d] }
  | _ => none }
def TapeNewsWrongFalsely : Prop := tapeNewsRow.holds Try.pinned (OpenSpec.ofChange tapeNewsWrong)

/-- 'windbreaklaw04.TapeTakes': WHATEVER THE INPUT: true; the input reads as it did. -/
def tapeTakesSpec : ChangeSpec := { name := "tapeTakes", fn := fun _ => fun
  | [d1, d2] => { results := [.lit (.bool true)], args := [d1, d2] }
  | _ => none }
def tapeTakesRow : OpenClaim := { program := "ytfafbggijhghcaa", sum := "1e3f751e6a95f5bdb7f809c954d3d2d8bfe4779377d4c8670ba0e39c1307be9b", func := "windbreak/windbreaklaw04.TapeTakes", spec := "tapeTakes", apart := false }
def TapeTakesSaid : Prop := tapeTakesRow.holds Try.pinned (OpenSpec.ofChange tapeTakesSpec)

/-- ITS FALSE NEIGHBOUR: 'it returns false'. Refute it at one input. -/
def tapeTakesWrong : ChangeSpec := { name := "tapeTakes", fn := fun _ => fun
  | [d1, d2] => { results := [.lit (.bool false)], args := [d1, d2] }
  | _ => none }
def TapeTakesWrongFalsely : Prop := tapeTakesRow.holds Try.pinned (OpenSpec.ofChange tapeTakesWrong)

/-- 'windbreaklaw04.TapeTwice': WHATEVER THE INPUT: true; the input reads as it did. -/
def tapeTwiceSpec : ChangeSpec := { name := "tapeTwice", fn := fun _ => fun
  | [d1, d2, d3] => { results := [.lit (.bool true)], args := [d1, d2, d3] }
  | _ => none }
def tapeTwiceRow : OpenClaim := { program := "ytfafbggijhghcaa", sum := "1e3f751e6a95f5bdb7f809c954d3d2d8bfe4779377d4c8670ba0e39c1307be9b", func := "windbreak/windbreaklaw04.TapeTwice", spec := "tapeTwice", apart := false }
def TapeTwiceSaid : Prop := tapeTwiceRow.holds Try.pinned (OpenSpec.ofChange tapeTwiceSpec)

/-- ITS FALSE NEIGHBOUR: 'it returns false'. Refute it at one input. -/
def tapeTwiceWrong : ChangeSpec := { name := "tapeTwice", fn := fun _ => fun
  | [d1, d2, d3] => { results := [.lit (.bool false)], args := [d1, d2, d3] }
  | _ => none }
def TapeTwiceWrongFalsely : Prop := tapeTwiceRow.holds Try.pinned (OpenSpec.ofChange tapeTwiceWrong)

/-- 'windbreaklaw04.TapeEven': WHATEVER THE INPUT: true; the input reads as it did. -/
def tapeEvenSpec : ChangeSpec := { name := "tapeEven", fn := fun _ => fun
  | [d] => { results := [.lit (.bool true)], args := [d] }
  | _ => none }
def tapeEvenRow : OpenClaim := { program := "ytfafbggijhghcaa", sum := "1e3f751e6a95f5bdb7f809c954d3d2d8bfe4779377d4c8670ba0e39c1307be9b", func := "windbreak/windbreaklaw04.TapeEven", spec := "tapeEven", inPlace := ["math/bits.Sub64"], unfollowed := true, recurses := true, apart := false }
def TapeEvenSaid : Prop := tapeEvenRow.holds Try.pinned (OpenSpec.ofChange tapeEvenSpec)

/-- ITS FALSE NEIGHBOUR: 'it returns false'. Refute it at one input. -/
def tapeEvenWrong : ChangeSpec := { name := "tapeEven", fn := fun _ => fun
  | [d] => { results := [.lit (.bool false)], args := [d] }
  | _ => none }
def TapeEvenWrongFalsely : Prop := tapeEvenRow.holds Try.pinned (OpenSpec.ofChange tapeEvenWrong)

/-- 'windbreaklaw04.TapeHangs': WHATEVER THE INPUT: true; the input reads as it did. -/
def tapeHangsSpec : ChangeSpec := { name := "tapeHangs", fn := fun _ => fun
  | [d1, d2, d3] => { results := [.lit (.bool true)], args := [d1, d2, d3] }
  | _ => none }
def tapeHangsRow : OpenClaim := { program := "ytfafbggijhghcaa", sum := "1e3f751e6a95f5bdb7f809c954d3d2d8bfe4779377d4c8670ba0e39c1307be9b", func := "windbreak/windbreaklaw04.TapeHangs", spec := "tapeHangs", inPlace := ["math/bits.Sub64"], unfollowed := true, recurses := true, apart := false }
def TapeHangsSaid : Prop := tapeHangsRow.holds Try.pinned (OpenSpec.ofChange tapeHangsSpec)

/-- ITS FALSE NEIGHBOUR: 'it returns false'. Refute it at one input. -/
def tapeHangsWrong : ChangeSpec := { name := "tapeHangs", fn := fun _ => fun
  | [d1, d2, d3] => { results := [.lit (.bool false)], args := [d1, d2, d3] }
  | _ => none }
def TapeHangsWrongFalsely : Prop := tapeHangsRow.holds Try.pinned (OpenSpec.ofChange tapeHangsWrong)

/-- 'windbreaklaw04.TapeDraws': WHATEVER THE INPUT: true; the input reads as it did. -/
def tapeDrawsSpec : ChangeSpec := { name := "tapeDraws", fn := fun _ => fun
  | [d1, d2] => { results := [.lit (.bool true)], args := [d1, d2] }
  | _ => none }
def tapeDrawsRow : OpenClaim := { program := "ytfafbggijhghcaa", sum := "1e3f751e6a95f5bdb7f809c954d3d2d8bfe4779377d4c8670ba0e39c1307be9b", func := "windbreak/windbreaklaw04.TapeDraws", spec := "tapeDraws", inPlace := ["math/bits.Sub64"], unfollowed := true, recurses := true, apart := false }
def TapeDrawsSaid : Prop := tapeDrawsRow.holds Try.pinned (OpenSpec.ofChange tapeDrawsSpec)

/-- ITS FALSE NEIGHBOUR: 'it returns false'. Refute it at one input. -/
def tapeDrawsWrong : ChangeSpec := { name := "tapeDraws", fn := fun _ => fun
  | [d1, d2] => { results := [.lit (.bool false)], args := [d1, d2] }
  | _ => none }
def TapeDrawsWrongFalsely : Prop := tapeDrawsRow.holds Try.pinned (OpenSpec.ofChange tapeDrawsWrong)

/- THE SECOND FORM. 'bulk': how many values and letters a reading holds, each counted each time it is reached (what is shared counts as often as it is met; a slice's spare places count too). A statement '..UptoSaid' is the law's where the arguments, and the package variables that the reading takes, are together of bulk at most 1048576: NARROWER than '..Said'. Prove '..Said' where nothing that the law and all that it calls make is longer than what came in: it says more and counts as full. Else prove '..UptoSaid'. A law counts once. -/
mutual
def uptoBulk {H : Type} : DataW H → Nat
  | .lit (.string bytes) => bytes.length + 1
  | .lit _ => 1
  | .nil => 1
  | .ptr d => uptoBulk d + 1
  | .slice elems spare => uptoBulkAll elems + uptoBulkAll spare + 1
  | .agg parts => uptoBulkAll parts + 1
  | .iface _ d => uptoBulk d + 1
  | .map entries => uptoBulkEntries entries + 1
  | .held _ => 1
def uptoBulkAll {H : Type} : List (DataW H) → Nat
  | [] => 0
  | d :: r => uptoBulk d + uptoBulkAll r
def uptoBulkEntries {H : Type} : List (Lit × DataW H) → Nat
  | [] => 0
  | x :: r => uptoBulkEntry x + uptoBulkEntries r
def uptoBulkEntry {H : Type} : Lit × DataW H → Nat
  | (.string bytes, d) => bytes.length + uptoBulk d + 1
  | (_, d) => uptoBulk d + 1
 end
def uptoSmall : (H : Type) → List (DataW H) → Bool := fun _ ds => decide (uptoBulkAll ds ≤ 1048576)
def OpenSpec.upto (s : _root_.Go.ChangeSpec) : _root_.Go.OpenSpec := { _root_.Go.OpenSpec.ofChange s with cond := some uptoSmall }

/-- 'windbreaklaw04.TapeNews', WHERE WHAT IT READS IS OF BULK AT MOST 1048576: true; the input reads as it did. -/
def tapeNewsUptoRow : OpenClaim := { program := "ytfafbggijhghcaa", sum := "1e3f751e6a95f5bdb7f809c954d3d2d8bfe4779377d4c8670ba0e39c1307be9b", func := "windbreak/windbreaklaw04.TapeNews", spec := "tapeNews", apart := false, narrowed := true }
def TapeNewsUptoSaid : Prop := tapeNewsUptoRow.holds Try.pinned (OpenSpec.upto tapeNewsSpec)

/-- 'windbreaklaw04.TapeTakes', WHERE WHAT IT READS IS OF BULK AT MOST 1048576: true; the input reads as it did. -/
def tapeTakesUptoRow : OpenClaim := { program := "ytfafbggijhghcaa", sum := "1e3f751e6a95f5bdb7f809c954d3d2d8bfe4779377d4c8670ba0e39c1307be9b", func := "windbreak/windbreaklaw04.TapeTakes", spec := "tapeTakes", apart := false, narrowed := true }
def TapeTakesUptoSaid : Prop := tapeTakesUptoRow.holds Try.pinned (OpenSpec.upto tapeTakesSpec)

/-- 'windbreaklaw04.TapeTwice', WHERE WHAT IT READS IS OF BULK AT MOST 1048576: true; the input reads as it did. -/
def tapeTwiceUptoRow : OpenClaim := { program := "ytfafbggijhghcaa", sum := "1e3f751e6a95f5bdb7f809c954d3d2d8bfe4779377d4c8670ba0e39c1307be9b", func := "windbreak/windbreaklaw04.TapeTwice", spec := "tapeTwice", apart := false, narrowed := true }
def TapeTwiceUptoSaid : Prop := tapeTwiceUptoRow.holds Try.pinned (OpenSpec.upto tapeTwiceSpec)

/-- 'windbreaklaw04.TapeEven', WHERE WHAT IT READS IS OF BULK AT MOST 1048576: true; the input reads as it did. -/
def tapeEvenUptoRow : OpenClaim := { program := "ytfafbggijhghcaa", sum := "1e3f751e6a95f5bdb7f809c954d3d2d8bfe4779377d4c8670ba0e39c1307be9b", func := "windbreak/windbreaklaw04.TapeEven", spec := "tapeEven", inPlace := ["math/bits.Sub64"], unfollowed := true, recurses := true, apart := false, narrowed := true }
def TapeEvenUptoSaid : Prop := tapeEvenUptoRow.holds Try.pinned (OpenSpec.upto tapeEvenSpec)

/-- 'windbreaklaw04.TapeHangs', WHERE WHAT IT READS IS OF BULK AT MOST 1048576: true; the input reads as it did. -/
def tapeHangsUptoRow : OpenClaim := { program := "ytfafbggijhghcaa", sum := "1e3f751e6a95f5bdb7f809c954d3d2d8bfe4779377d4c8670ba0e39c1307be9b", func := "windbreak/windbreaklaw04.TapeHangs", spec := "tapeHangs", inPlace := ["math/bits.Sub64"], unfollowed := true, recurses := true, apart := false, narrowed := true }
def TapeHangsUptoSaid : Prop := tapeHangsUptoRow.holds Try.pinned (OpenSpec.upto tapeHangsSpec)

/-- 'windbreaklaw04.TapeDraws', WHERE WHAT IT READS IS OF BULK AT MOST 1048576: true; the input reads as it did. -/
def tapeDrawsUptoRow : OpenClaim := { program := "ytfafbggijhghcaa", sum := "1e3f751e6a95f5bdb7f809c954d3d2d8bfe4779377d4c8670ba0e39c1307be9b", func := "windbreak/windbreaklaw04.TapeDraws", spec := "tapeDraws", inPlace := ["math/bits.Sub64"], unfollowed := true, recurses := true, apart := false, narrowed := true }
def TapeDrawsUptoSaid : Prop := tapeDrawsUptoRow.holds Try.pinned (OpenSpec.upto tapeDrawsSpec)

end Rows
end Go.Proofs.Ytfafbggijhghcaa

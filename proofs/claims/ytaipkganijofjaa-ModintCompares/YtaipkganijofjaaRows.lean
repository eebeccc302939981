/-
  No cell of these rows narrows 'for every input' (looked for: loops, veiled, ifaces, maps, wideKeys, modest, calm, conditions, laid).
  DERIVED. THE GIVEN ROWS OF THIS SEAT. 6 by the template 'for every input the law returns true; each argument reads behind the call as it read before'; 0 by the template 'total and deterministic' (their statements: YtaipkganijofjaaTotals.lean).
  GIVEN WITH THE SEED: the statements are not yours to turn. If you find one false, say at which input.
  Laid BY PROGRAM, IN A SANDBOX (cutbox-rows.mjs): the forced cells as the released guide's own fill.sh prints them over the translation 1848d2293a2953f5… (all of the seat's roots in one cut). By AI agents, Wed Nov 11 2026. No macro, syntax, notation, axiom, sorry.
-/
import Derived.Test.YtaipkganijofjaaChecked
import GoSem.Claim
import GoSem.ClaimJoined
import GoSem.ClaimMapViews
import Derived.JoinedTies
import Derived.KernelRfl
namespace Go.Proofs.Ytaipkganijofjaa
/- THE CELL 'sum', in the pinned program and in every row, IS THE sha256 OF THE DUMP (.gsa) THAT YtaipkganijofjaaProg.lean LOADS. Nothing in Lean hashes anything: it is a label: what it is worth is what the hold of that sum in a sandbox is worth. -/
noncomputable def Try.pinned : Pinned := { name := "ytaipkganijofjaa", sum := "1848d2293a2953f5bf2ed494e1576aa35468c9401d7b41824c2e637ef8d02e4b", checked := Try.checked }
namespace Rows
def none {H : Type} : Left H := { results := [], args := [] }

/-- 'windbreaklaw03.ModintRights': WHATEVER THE INPUT: true; the input reads as it did. -/
def modintRightsSpec : ChangeSpec := { name := "modintRights", fn := fun _ => fun
  | [d1, d2, d3] => { results := [.lit (.bool true)], args := [d1, d2, d3] }
  | _ => none }
def modintRightsRow : OpenClaim := { program := "ytaipkganijofjaa", sum := "1848d2293a2953f5bf2ed494e1576aa35468c9401d7b41824c2e637ef8d02e4b", func := "windbreak/windbreaklaw03.ModintRights", spec := "modintRights", apart := false }
def ModintRightsSaid : Prop := modintRightsRow.holds Try.pinned (OpenSpec.ofChange modintRightsSpec)

/-- ITS FALSE NEIGHBOUR: 'it returns false'. Refute it at one input. -/
def modintRightsWrong : ChangeSpec := { name := "modintRights", fn := fun _ => fun
  | [d1, d2, d3] => { results := [.lit (.bool false)], args := [d1, d2, d3] }
  | _ => none }
def ModintRightsWrongFalsely : Prop := modintRightsRow.holds Try.pinned (OpenSpec.ofChange modintRightsWrong)

/-- 'windbreaklaw03.ModintCompares': WHATEVER THE INPUT: true; the input reads as it did. -/
def modintComparesSpec : ChangeSpec := { name := "modintCompares", fn := fun _ => fun
  | [d1, d2] => { results := [.lit (.bool true)], args := [d1, d2] }
  | _ => none }
def modintComparesRow : OpenClaim := { program := "ytaipkganijofjaa", sum := "1848d2293a2953f5bf2ed494e1576aa35468c9401d7b41824c2e637ef8d02e4b", func := "windbreak/windbreaklaw03.ModintCompares", spec := "modintCompares", apart := false }
def ModintComparesSaid : Prop := modintComparesRow.holds Try.pinned (OpenSpec.ofChange modintComparesSpec)

/-- ITS FALSE NEIGHBOUR: 'it returns false'. Refute it at one input. -/
def modintComparesWrong : ChangeSpec := { name := "modintCompares", fn := fun _ => fun
  | [d1, d2] => { results := [.lit (.bool false)], args := [d1, d2] }
  | _ => none }
def ModintComparesWrongFalsely : Prop := modintComparesRow.holds Try.pinned (OpenSpec.ofChange modintComparesWrong)

/-- 'windbreaklaw03.ModintSums': WHATEVER THE INPUT: true; the input reads as it did. -/
def modintSumsSpec : ChangeSpec := { name := "modintSums", fn := fun _ => fun
  | [d1, d2] => { results := [.lit (.bool true)], args := [d1, d2] }
  | _ => none }
def modintSumsRow : OpenClaim := { program := "ytaipkganijofjaa", sum := "1848d2293a2953f5bf2ed494e1576aa35468c9401d7b41824c2e637ef8d02e4b", func := "windbreak/windbreaklaw03.ModintSums", spec := "modintSums", inPlace := ["math/bits.Sub64", "math/bits.Add64"], apart := false }
def ModintSumsSaid : Prop := modintSumsRow.holds Try.pinned (OpenSpec.ofChange modintSumsSpec)

/-- ITS FALSE NEIGHBOUR: 'it returns false'. Refute it at one input. -/
def modintSumsWrong : ChangeSpec := { name := "modintSums", fn := fun _ => fun
  | [d1, d2] => { results := [.lit (.bool false)], args := [d1, d2] }
  | _ => none }
def ModintSumsWrongFalsely : Prop := modintSumsRow.holds Try.pinned (OpenSpec.ofChange modintSumsWrong)

/-- 'windbreaklaw03.ModintProducts': WHATEVER THE INPUT: true; the input reads as it did. -/
def modintProductsSpec : ChangeSpec := { name := "modintProducts", fn := fun _ => fun
  | [d1, d2] => { results := [.lit (.bool true)], args := [d1, d2] }
  | _ => none }
def modintProductsRow : OpenClaim := { program := "ytaipkganijofjaa", sum := "1848d2293a2953f5bf2ed494e1576aa35468c9401d7b41824c2e637ef8d02e4b", func := "windbreak/windbreaklaw03.ModintProducts", spec := "modintProducts", inPlace := ["math/bits.Add64", "math/bits.Sub64"], unfollowed := true, recurses := true, apart := false }
def ModintProductsSaid : Prop := modintProductsRow.holds Try.pinned (OpenSpec.ofChange modintProductsSpec)

/-- ITS FALSE NEIGHBOUR: 'it returns false'. Refute it at one input. -/
def modintProductsWrong : ChangeSpec := { name := "modintProducts", fn := fun _ => fun
  | [d1, d2] => { results := [.lit (.bool false)], args := [d1, d2] }
  | _ => none }
def ModintProductsWrongFalsely : Prop := modintProductsRow.holds Try.pinned (OpenSpec.ofChange modintProductsWrong)

/-- 'windbreaklaw03.ModintFloors': WHATEVER THE INPUT: true; the input reads as it did. -/
def modintFloorsSpec : ChangeSpec := { name := "modintFloors", fn := fun _ => fun
  | [d1, d2] => { results := [.lit (.bool true)], args := [d1, d2] }
  | _ => none }
def modintFloorsRow : OpenClaim := { program := "ytaipkganijofjaa", sum := "1848d2293a2953f5bf2ed494e1576aa35468c9401d7b41824c2e637ef8d02e4b", func := "windbreak/windbreaklaw03.ModintFloors", spec := "modintFloors", inPlace := ["math/bits.Add64", "math/bits.Sub64"], named := ["math/bits.divideError", "math/bits.overflowError"], apart := false }
def ModintFloorsSaid : Prop := modintFloorsRow.holds Try.pinned (OpenSpec.ofChange modintFloorsSpec)

/-- ITS FALSE NEIGHBOUR: 'it returns false'. Refute it at one input. -/
def modintFloorsWrong : ChangeSpec := { name := "modintFloors", fn := fun _ => fun
  | [d1, d2] => { results := [.lit (.bool false)], args := [d1, d2] }
  | _ => none }
def ModintFloorsWrongFalsely : Prop := modintFloorsRow.holds Try.pinned (OpenSpec.ofChange modintFloorsWrong)

/-- 'windbreaklaw03.ModintBack': WHATEVER THE INPUT: true; the input reads as it did. -/
def modintBackSpec : ChangeSpec := { name := "modintBack", fn := fun _ => fun
  | [d1, d2] => { results := [.lit (.bool true)], args := [d1, d2] }
  | _ => none }
def modintBackRow : OpenClaim := { program := "ytaipkganijofjaa", sum := "1848d2293a2953f5bf2ed494e1576aa35468c9401d7b41824c2e637ef8d02e4b", func := "windbreak/windbreaklaw03.ModintBack", spec := "modintBack", inPlace := ["math/bits.Add64", "math/bits.Sub64"], unfollowed := true, recurses := true, named := ["math/bits.divideError", "math/bits.overflowError"], apart := false }
def ModintBackSaid : Prop := modintBackRow.holds Try.pinned (OpenSpec.ofChange modintBackSpec)

/-- ITS FALSE NEIGHBOUR: 'it returns false'. Refute it at one input. -/
def modintBackWrong : ChangeSpec := { name := "modintBack", fn := fun _ => fun
  | [d1, d2] => { results := [.lit (.bool false)], args := [d1, d2] }
  | _ => none }
def ModintBackWrongFalsely : Prop := modintBackRow.holds Try.pinned (OpenSpec.ofChange modintBackWrong)

/- THE SECOND FORM. 'bulk': how many values and letters a reading holds, each counted each time it is reached (what is shared counts as often as it is met; a slice's spare places count too). A statement '..UptoSaid' is the law's where the arguments, and the package variables that the reading takes, are together of bulk at most 1048576: NARROWER than '..Said'. Prove '..Said' where nothing that the law and all that it calls make is longer than what came in: it says more and counts as full. Else prove '..UptoSaid'. A law counts once. -/
mutual
def uptoBulk {H : Type} : DataW H → Nat
  | .lit (.string bytes) => bytes.length + 1
  | .lit _ => 1
  | .nil => 1
  | .ptr d => uptoBulk d + 1
  | .slice elems spare => uptoBulkAll elems + uptoBulkAll spare + 1
  | .agg parts => uptoBulkAll parts + 1
  | .iface _ d => uptoBulk d + 1
  | .map entries => uptoBulkEntries entries + 1
  | .held _ => 1
def uptoBulkAll {H : Type} : List (DataW H) → Nat
  | [] => 0
  | d :: r => uptoBulk d + uptoBulkAll r
def uptoBulkEntries {H : Type} : List (Lit × DataW H) → Nat
  | [] => 0
  | x :: r => uptoBulkEntry x + uptoBulkEntries r
def uptoBulkEntry {H : Type} : Lit × DataW H → Nat
  | (.string bytes, d) => bytes.length + uptoBulk d + 1
  | (_, d) => uptoBulk d + 1
 end
def uptoSmall : (H : Type) → List (DataW H) → Bool := fun _ ds => decide (uptoBulkAll ds ≤ 1048576)
def OpenSpec.upto (s : _root_.Go.ChangeSpec) : _root_.Go.OpenSpec := { _root_.Go.OpenSpec.ofChange s with cond := some uptoSmall }

/-- 'windbreaklaw03.ModintRights', WHERE WHAT IT READS IS OF BULK AT MOST 1048576: true; the input reads as it did. -/
def modintRightsUptoRow : OpenClaim := { program := "ytaipkganijofjaa", sum := "1848d2293a2953f5bf2ed494e1576aa35468c9401d7b41824c2e637ef8d02e4b", func := "windbreak/windbreaklaw03.ModintRights", spec := "modintRights", apart := false, narrowed := true }
def ModintRightsUptoSaid : Prop := modintRightsUptoRow.holds Try.pinned (OpenSpec.upto modintRightsSpec)

/-- 'windbreaklaw03.ModintCompares', WHERE WHAT IT READS IS OF BULK AT MOST 1048576: true; the input reads as it did. -/
def modintComparesUptoRow : OpenClaim := { program := "ytaipkganijofjaa", sum := "1848d2293a2953f5bf2ed494e1576aa35468c9401d7b41824c2e637ef8d02e4b", func := "windbreak/windbreaklaw03.ModintCompares", spec := "modintCompares", apart := false, narrowed := true }
def ModintComparesUptoSaid : Prop := modintComparesUptoRow.holds Try.pinned (OpenSpec.upto modintComparesSpec)

/-- 'windbreaklaw03.ModintSums', WHERE WHAT IT READS IS OF BULK AT MOST 1048576: true; the input reads as it did. -/
def modintSumsUptoRow : OpenClaim := { program := "ytaipkganijofjaa", sum := "1848d2293a2953f5bf2ed494e1576aa35468c9401d7b41824c2e637ef8d02e4b", func := "windbreak/windbreaklaw03.ModintSums", spec := "modintSums", inPlace := ["math/bits.Sub64", "math/bits.Add64"], apart := false, narrowed := true }
def ModintSumsUptoSaid : Prop := modintSumsUptoRow.holds Try.pinned (OpenSpec.upto modintSumsSpec)

/-- 'windbreaklaw03.ModintProducts', WHERE WHAT IT READS IS OF BULK AT MOST 1048576: true; the input reads as it did. -/
def modintProductsUptoRow : OpenClaim := { program := "ytaipkganijofjaa", sum := "1848d2293a2953f5bf2ed494e1576aa35468c9401d7b41824c2e637ef8d02e4b", func := "windbreak/windbreaklaw03.ModintProducts", spec := "modintProducts", inPlace := ["math/bits.Add64", "math/bits.Sub64"], unfollowed := true, recurses := true, apart := false, narrowed := true }
def ModintProductsUptoSaid : Prop := modintProductsUptoRow.holds Try.pinned (OpenSpec.upto modintProductsSpec)

/-- 'windbreaklaw03.ModintFloors', WHERE WHAT IT READS IS OF BULK AT MOST 1048576: true; the input reads as it did. -/
def modintFloorsUptoRow : OpenClaim := { program := "ytaipkganijofjaa", sum := "1848d2293a2953f5bf2ed494e1576aa35468c9401d7b41824c2e637ef8d02e4b", func := "windbreak/windbreaklaw03.ModintFloors", spec := "modintFloors", inPlace := ["math/bits.Add64", "math/bits.Sub64"], named := ["math/bits.divideError", "math/bits.overflowError"], apart := false, narrowed := true }
def ModintFloorsUptoSaid : Prop := modintFloorsUptoRow.holds Try.pinned (OpenSpec.upto modintFloorsSpec)

/-- 'windbreaklaw03.ModintBack', WHERE WHAT IT READS IS OF BULK AT MOST 1048576: true; the input reads as it did. -/
def modintBackUptoRow : OpenClaim := { program := "ytaipkganijofjaa", sum := "1848d2293a2953f5bf2ed494e1576aa35468c9401d7b41824c2e637ef8d02e4b", func := "windbreak/windbreaklaw03.ModintBack", spec := "modintBack", inPlace := ["math/bits.Add64", "math/bits.Sub64"], unfollowed := true, recurses := true, named := ["math/bits.divideError", "math/bits.overflowError"], apart := false, narrowed := true }
def ModintBackUptoSaid : Prop := modintBackUptoRow.holds Try.pinned (OpenSpec.upto modintBackSpec)

end Rows
end Go.Proofs.Ytaipkganijofjaa

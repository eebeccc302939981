/-
  No cell of these rows narrows 'for every input' (looked for: loops, veiled, ifaces, maps, wideKeys, modest, calm, conditions, laid).
  DERIVED. THE GIVEN ROWS OF THIS SEAT. 6 by the template 'for every input the law returns true; each argument reads behind the call as it read before'; 0 by the template 'total and deterministic' (their statements: YtambpcgdaogojaaTotals.lean).
  GIVEN WITH THE SEED: the statements are not yours to turn. If you find one false, say at which input.
  Laid BY PROGRAM, IN A SANDBOX (cutbox-rows.mjs): the forced cells as the released guide's own fill.sh prints them over the translation 0c0421a8df2b27c6… (all of the seat's roots in one cut). By AI agents, Wed Nov 11 2026. No macro, syntax, notation, axiom, sorry.
-/
import Derived.Test.YtambpcgdaogojaaChecked
import GoSem.Claim
import GoSem.ClaimJoined
import GoSem.ClaimMapViews
import Derived.JoinedTies
import Derived.KernelRfl
namespace Go.Proofs.Ytambpcgdaogojaa
/- THE CELL 'sum', in the pinned program and in every row, IS THE sha256 OF THE DUMP (.gsa) THAT YtambpcgdaogojaaProg.lean LOADS. Nothing in Lean hashes anything: it is a label: what it is worth is what the hold of that sum in a sandbox is worth. -/
noncomputable def Try.pinned : Pinned := { name := "ytambpcgdaogojaa", sum := "0c0421a8df2b27c650f8d6152195dabed8515cc3e0cad1306ed022862f748a05", checked := Try.checked }
namespace Rows
def none {H : Type} : Left H := { results := [], args := [] }

/-- 'windbreaklaw07.FixencCodes': WHATEVER THE INPUT: true; the input reads as it did. -/
def fixencCodesSpec : ChangeSpec := { name := "fixencCodes", fn := fun _ => fun
  | [d1, d2, d3] => { results := [.lit (.bool true)], args := [d1, d2, d3] }
  | _ => none }
def fixencCodesRow : OpenClaim := { program := "ytambpcgdaogojaa", sum := "0c0421a8df2b27c650f8d6152195dabed8515cc3e0cad1306ed022862f748a05", func := "windbreak/windbreaklaw07.FixencCodes", spec := "fixencCodes", inPlace := ["math/bits.Sub64"], unfollowed := true, recurses := true, apart := false }
def FixencCodesSaid : Prop := fixencCodesRow.holds Try.pinned (OpenSpec.ofChange fixencCodesSpec)

/-- ITS FALSE NEIGHBOUR: 'it returns false'. Refute it at one input. -/
def fixencCodesWrong : ChangeSpec := { name := "fixencCodes", fn := fun _ => fun
  | [d1, d2, d3] => { results := [.lit (.bool false)], args := [d1, d2, d3] }
  | _ => none }
def FixencCodesWrongFalsely : Prop := fixencCodesRow.holds Try.pinned (OpenSpec.ofChange fixencCodesWrong)

/-- 'windbreaklaw07.FixencPacks': WHATEVER THE INPUT: true; the input reads as it did. -/
def fixencPacksSpec : ChangeSpec := { name := "fixencPacks", fn := fun _ => fun
  | [d1, d2, d3] => { results := [.lit (.bool true)], args := [d1, d2, d3] }
  | _ => none }
def fixencPacksRow : OpenClaim := { program := "ytambpcgdaogojaa", sum := "0c0421a8df2b27c650f8d6152195dabed8515cc3e0cad1306ed022862f748a05", func := "windbreak/windbreaklaw07.FixencPacks", spec := "fixencPacks", inPlace := ["math/bits.Sub64", "math/bits.Add64"], unfollowed := true, recurses := true, apart := false }
def FixencPacksSaid : Prop := fixencPacksRow.holds Try.pinned (OpenSpec.ofChange fixencPacksSpec)

/-- ITS FALSE NEIGHBOUR: 'it returns false'. Refute it at one input. -/
def fixencPacksWrong : ChangeSpec := { name := "fixencPacks", fn := fun _ => fun
  | [d1, d2, d3] => { results := [.lit (.bool false)], args := [d1, d2, d3] }
  | _ => none }
def FixencPacksWrongFalsely : Prop := fixencPacksRow.holds Try.pinned (OpenSpec.ofChange fixencPacksWrong)

/-- 'windbreaklaw07.FixencUnpacks': WHATEVER THE INPUT: true; the input reads as it did. -/
def fixencUnpacksSpec : ChangeSpec := { name := "fixencUnpacks", fn := fun _ => fun
  | [d1, d2, d3] => { results := [.lit (.bool true)], args := [d1, d2, d3] }
  | _ => none }
def fixencUnpacksRow : OpenClaim := { program := "ytambpcgdaogojaa", sum := "0c0421a8df2b27c650f8d6152195dabed8515cc3e0cad1306ed022862f748a05", func := "windbreak/windbreaklaw07.FixencUnpacks", spec := "fixencUnpacks", inPlace := ["math/bits.Sub64", "math/bits.Add64"], unfollowed := true, recurses := true, named := ["math/bits.divideError", "math/bits.overflowError"], apart := false }
def FixencUnpacksSaid : Prop := fixencUnpacksRow.holds Try.pinned (OpenSpec.ofChange fixencUnpacksSpec)

/-- ITS FALSE NEIGHBOUR: 'it returns false'. Refute it at one input. -/
def fixencUnpacksWrong : ChangeSpec := { name := "fixencUnpacks", fn := fun _ => fun
  | [d1, d2, d3] => { results := [.lit (.bool false)], args := [d1, d2, d3] }
  | _ => none }
def FixencUnpacksWrongFalsely : Prop := fixencUnpacksRow.holds Try.pinned (OpenSpec.ofChange fixencUnpacksWrong)

/-- 'windbreaklaw07.FixencRooms': WHATEVER THE INPUT: true; the input reads as it did. -/
def fixencRoomsSpec : ChangeSpec := { name := "fixencRooms", fn := fun _ => fun
  | [d1, d2] => { results := [.lit (.bool true)], args := [d1, d2] }
  | _ => none }
def fixencRoomsRow : OpenClaim := { program := "ytambpcgdaogojaa", sum := "0c0421a8df2b27c650f8d6152195dabed8515cc3e0cad1306ed022862f748a05", func := "windbreak/windbreaklaw07.FixencRooms", spec := "fixencRooms", inPlace := ["math/bits.Sub64", "math/bits.Add64"], unfollowed := true, recurses := true, apart := false }
def FixencRoomsSaid : Prop := fixencRoomsRow.holds Try.pinned (OpenSpec.ofChange fixencRoomsSpec)

/-- ITS FALSE NEIGHBOUR: 'it returns false'. Refute it at one input. -/
def fixencRoomsWrong : ChangeSpec := { name := "fixencRooms", fn := fun _ => fun
  | [d1, d2] => { results := [.lit (.bool false)], args := [d1, d2] }
  | _ => none }
def FixencRoomsWrongFalsely : Prop := fixencRoomsRow.holds Try.pinned (OpenSpec.ofChange fixencRoomsWrong)

/-- 'windbreaklaw07.FixencBack': WHATEVER THE INPUT: true; the input reads as it did. -/
def fixencBackSpec : ChangeSpec := { name := "fixencBack", fn := fun _ => fun
  | [d1, d2, d3] => { results := [.lit (.bool true)], args := [d1, d2, d3] }
  | _ => none }
def fixencBackRow : OpenClaim := { program := "ytambpcgdaogojaa", sum := "0c0421a8df2b27c650f8d6152195dabed8515cc3e0cad1306ed022862f748a05", func := "windbreak/windbreaklaw07.FixencBack", spec := "fixencBack", inPlace := ["math/bits.Sub64", "math/bits.Add64"], unfollowed := true, recurses := true, named := ["math/bits.divideError", "math/bits.overflowError"], apart := false }
def FixencBackSaid : Prop := fixencBackRow.holds Try.pinned (OpenSpec.ofChange fixencBackSpec)

/-- ITS FALSE NEIGHBOUR: 'it returns false'. Refute it at one input. -/
def fixencBackWrong : ChangeSpec := { name := "fixencBack", fn := fun _ => fun
  | [d1, d2, d3] => { results := [.lit (.bool false)], args := [d1, d2, d3] }
  | _ => none }
def FixencBackWrongFalsely : Prop := fixencBackRow.holds Try.pinned (OpenSpec.ofChange fixencBackWrong)

/-- 'windbreaklaw07.FixencAdds': WHATEVER THE INPUT: true; the input reads as it did. -/
def fixencAddsSpec : ChangeSpec := { name := "fixencAdds", fn := fun _ => fun
  | [d1, d2, d3] => { results := [.lit (.bool true)], args := [d1, d2, d3] }
  | _ => none }
def fixencAddsRow : OpenClaim := { program := "ytambpcgdaogojaa", sum := "0c0421a8df2b27c650f8d6152195dabed8515cc3e0cad1306ed022862f748a05", func := "windbreak/windbreaklaw07.FixencAdds", spec := "fixencAdds", inPlace := ["math/bits.Sub64", "math/bits.Add64"], unfollowed := true, recurses := true, named := ["math/bits.divideError", "math/bits.overflowError"], apart := false }
def FixencAddsSaid : Prop := fixencAddsRow.holds Try.pinned (OpenSpec.ofChange fixencAddsSpec)

/-- ITS FALSE NEIGHBOUR: 'it returns false'. Refute it at one input. -/
def fixencAddsWrong : ChangeSpec := { name := "fixencAdds", fn := fun _ => fun
  | [d1, d2, d3] => { results := [.lit (.bool false)], args := [d1, d2, d3] }
  | _ => none }
def FixencAddsWrongFalsely : Prop := fixencAddsRow.holds Try.pinned (OpenSpec.ofChange fixencAddsWrong)

/- THE SECOND FORM. 'bulk': how many values and letters a reading holds, each counted each time it is reached (what is shared counts as often as it is met; a slice's spare places count too). A statement '..UptoSaid' is the law's where the arguments, and the package variables that the reading takes, are together of bulk at most 1048576: NARROWER than '..Said'. Prove '..Said' where nothing that the law and all that it calls make is longer than what came in: it says more and counts as full. Else prove '..UptoSaid'. A law counts once. -/
mutual
def uptoBulk {H : Type} : DataW H → Nat
  | .lit (.string bytes) => bytes.length + 1
  | .lit _ => 1
  | .nil => 1
  | .ptr d => uptoBulk d + 1
  | .slice elems spare => uptoBulkAll elems + uptoBulkAll spare + 1
  | .agg parts => uptoBulkAll parts + 1
  | .iface _ d => uptoBulk d + 1
  | .map entries => uptoBulkEntries entries + 1
  | .held _ => 1
def uptoBulkAll {H : Type} : List (DataW H) → Nat
  | [] => 0
  | d :: r => uptoBulk d + uptoBulkAll r
def uptoBulkEntries {H : Type} : List (Lit × DataW H) → Nat
  | [] => 0
  | x :: r => uptoBulkEntry x + uptoBulkEntries r
def uptoBulkEntry {H : Type} : Lit × DataW H → Nat
  | (.string bytes, d) => bytes.length + uptoBulk d + 1
  | (_, d) => uptoBulk d + 1
 end
def uptoSmall : (H : Type) → List (DataW H) → Bool := fun _ ds => decide (uptoBulkAll ds ≤ 1048576)
def OpenSpec.upto (s : _root_.Go.ChangeSpec) : _root_.Go.OpenSpec := { _root_.Go.OpenSpec.ofChange s with cond := some uptoSmall }

/-- 'windbreaklaw07.FixencCodes', WHERE WHAT IT READS IS OF BULK AT MOST 1048576: true; the input reads as it did. -/
def fixencCodesUptoRow : OpenClaim := { program := "ytambpcgdaogojaa", sum := "0c0421a8df2b27c650f8d6152195dabed8515cc3e0cad1306ed022862f748a05", func := "windbreak/windbreaklaw07.FixencCodes", spec := "fixencCodes", inPlace := ["math/bits.Sub64"], unfollowed := true, recurses := true, apart := false, narrowed := true }
def FixencCodesUptoSaid : Prop := fixencCodesUptoRow.holds Try.pinned (OpenSpec.upto fixencCodesSpec)

/-- 'windbreaklaw07.FixencPacks', WHERE WHAT IT READS IS OF BULK AT MOST 1048576: true; the input reads as it did. -/
def fixencPacksUptoRow : OpenClaim := { program := "ytambpcgdaogojaa", sum := "0c0421a8df2b27c650f8d6152195dabed8515cc3e0cad1306ed022862f748a05", func := "windbreak/windbreaklaw07.FixencPacks", spec := "fixencPacks", inPlace := ["math/bits.Sub64", "math/bits.Add64"], unfollowed := true, recurses := true, apart := false, narrowed := true }
def FixencPacksUptoSaid : Prop := fixencPacksUptoRow.holds Try.pinned (OpenSpec.upto fixencPacksSpec)

/-- 'windbreaklaw07.FixencUnpacks', WHERE WHAT IT READS IS OF BULK AT MOST 1048576: true; the input reads as it did. -/
def fixencUnpacksUptoRow : OpenClaim := { program := "ytambpcgdaogojaa", sum := "0c0421a8df2b27c650f8d6152195dabed8515cc3e0cad1306ed022862f748a05", func := "windbreak/windbreaklaw07.FixencUnpacks", spec := "fixencUnpacks", inPlace := ["math/bits.Sub64", "math/bits.Add64"], unfollowed := true, recurses := true, named := ["math/bits.divideError", "math/bits.overflowError"], apart := false, narrowed := true }
def FixencUnpacksUptoSaid : Prop := fixencUnpacksUptoRow.holds Try.pinned (OpenSpec.upto fixencUnpacksSpec)

/-- 'windbreaklaw07.FixencRooms', WHERE WHAT IT READS IS OF BULK AT MOST 1048576: true; the input reads as it did. -/
def fixencRoomsUptoRow : OpenClaim := { program := "ytambpcgdaogojaa", sum := "0c0421a8df2b27c650f8d6152195dabed8515cc3e0cad1306ed022862f748a05", func := "windbreak/windbreaklaw07.FixencRooms", spec := "fixencRooms", inPlace := ["math/bits.Sub64", "math/bits.Add64"], unfollowed := true, recurses := true, apart := false, narrowed := true }
def FixencRoomsUptoSaid : Prop := fixencRoomsUptoRow.holds Try.pinned (OpenSpec.upto fixencRoomsSpec)

/-- 'windbreaklaw07.FixencBack', WHERE WHAT IT READS IS OF BULK AT MOST 1048576: true; the input reads as it did. -/
def fixencBackUptoRow : OpenClaim := { program := "ytambpcgdaogojaa", sum := "0c0421a8df2b27c650f8d6152195dabed8515cc3e0cad1306ed022862f748a05", func := "windbreak/windbreaklaw07.FixencBack", spec := "fixencBack", inPlace := ["math/bits.Sub64", "math/bits.Add64"], unfollowed := true, recurses := true, named := ["math/bits.divideError", "math/bits.overflowError"], apart := false, narrowed := true }
def FixencBackUptoSaid : Prop := fixencBackUptoRow.holds Try.pinned (OpenSpec.upto fixencBackSpec)

/-- 'windbreaklaw07.FixencAdds', WHERE WHAT IT READS IS OF BULK AT MOST 1048576: true; the input reads as it did. -/
def fixencAddsUptoRow : OpenClaim := { program := "ytambpcgdaogojaa", sum := "0c0421a8df2b27c650f8d6152195dabed8515cc3e0cad1306ed022862f748a05", func := "windbreak/windbreaklaw07.FixencAdds", spec := "fixencAdds", inPlace := ["math/bits.Sub64", "math/bits.Add64"], unfollowed := true, recurses := true, named := ["math/bits.divideError", "math/bits.overflowError"], apart := false, narrowed := true }
def FixencAddsUptoSaid : Prop := fixencAddsUptoRow.holds Try.pinned (OpenSpec.upto fixencAddsSpec)

end Rows
end Go.Proofs.Ytambpcgdaogojaa

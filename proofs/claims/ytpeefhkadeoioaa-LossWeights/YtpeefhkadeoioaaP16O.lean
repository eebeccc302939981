/-
  Stage 16's laws: what they ask of the program's functions. Written by mk/p16.py.
-/
import Derived.Test.YtpeefhkadeoioaaRef16D
import Derived.Test.YtpeefhkadeoioaaW12B
namespace Go.Proofs.Ytpeefhkadeoioaa
open Go.RowKit

/-- A configuration's numbers are words. -/
def CfgW (c : Cfg) : Prop := (-9223372036854775808 ≤ c.T ∧ c.T < 9223372036854775808) ∧ (-9223372036854775808 ≤ c.D ∧ c.D < 9223372036854775808) ∧ (-9223372036854775808 ≤ c.L ∧ c.L < 9223372036854775808) ∧ (-9223372036854775808 ≤ c.G ∧ c.G < 9223372036854775808) ∧ (-9223372036854775808 ≤ c.N ∧ c.N < 9223372036854775808) ∧ (-9223372036854775808 ≤ c.E ∧ c.E < 9223372036854775808) ∧ (-9223372036854775808 ≤ c.S ∧ c.S < 9223372036854775808) ∧ (-9223372036854775808 ≤ c.C ∧ c.C < 9223372036854775808)
def RgtOk16 : Prop := ∀ (c : Cfg) (w : World), CfgW c → Calls Try.prog 9 #[.agg #[.int .i64 c.T, .int .i64 c.D, .int .i64 c.L, .int .i64 c.G, .int .i64 c.N, .int .i64 c.E, .int .i64 c.S, .int .i64 c.C]] w fun e w' => RgtT16 c w e w'
def GrdOk16 : Prop := ∀ (c : Cfg) (s l : Int) (w : World), CfgW c → (-9223372036854775808 ≤ s ∧ s < 9223372036854775808) → (-9223372036854775808 ≤ l ∧ l < 9223372036854775808) → Calls Try.prog 11 #[.agg #[.int .i64 c.T, .int .i64 c.D, .int .i64 c.L, .int .i64 c.G, .int .i64 c.N, .int .i64 c.E, .int .i64 c.S, .int .i64 c.C], .int .i64 s, .int .i64 l] w fun e w' => GradT16 c s l w e w'
def WgtOk16 : Prop := ∀ (c : Cfg) (G H : Int) (w : World), CfgW c → (-9223372036854775808 ≤ G ∧ G < 9223372036854775808) → (-9223372036854775808 ≤ H ∧ H < 9223372036854775808) → Calls Try.prog 13 #[.agg #[.int .i64 c.T, .int .i64 c.D, .int .i64 c.L, .int .i64 c.G, .int .i64 c.N, .int .i64 c.E, .int .i64 c.S, .int .i64 c.C], .agg #[.int .i64 G, .int .i64 H]] w fun e w' => WeightT16 c G H w e w'
end Go.Proofs.Ytpeefhkadeoioaa

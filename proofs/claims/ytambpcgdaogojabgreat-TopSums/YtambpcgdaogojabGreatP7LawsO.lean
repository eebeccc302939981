/-
  What stage 7's laws ask of the program's functions; the contract of awake.
-/
import Derived.Test.YtambpcgdaogojabGreatP7Few
import Derived.Test.YtambpcgdaogojabGreatF7Ans
import Derived.Laws.NewBlocks
namespace Go.Proofs.YtambpcgdaogojabGreat
open Go.RowKit

/-- The program puts two into one. -/
def PkOk : Prop := ∀ (a : Option Addr) (la ca : Nat) (ns : List Int) (s g h : Int) (w : World), Nums w a la ca ns → -9223372036854775808 ≤ s ∧ s < 9223372036854775808 → -9223372036854775808 ≤ g ∧ g < 9223372036854775808 → -9223372036854775808 ≤ h ∧ h < 9223372036854775808 → Calls Tryz.prog 7 #[.slice a la ca, .int .i64 s, .int .i64 g, .int .i64 h] w fun e w' => TripT (pkF ns s g h) (codV (nv ns) (pkX s g h)) w e w'
/-- The program tells the two of one. -/
def UpOk : Prop := ∀ (a b : Option Addr) (la ca lb cb : Nat) (ns vs : List Int) (s : Int) (w : World), Nums w a la ca ns → Nums w b lb cb vs → -9223372036854775808 ≤ s ∧ s < 9223372036854775808 → Calls Tryz.prog 11 #[.slice a la ca, .int .i64 s, .slice b lb cb] w fun e w' => PairT7 (upF ns s vs) (upG ns s vs) (upH ns s vs) w e w'
/-- The program tells how far the first one is moved. -/
def RmOk : Prop := ∀ (a : Option Addr) (la ca : Nat) (ns : List Int) (r m k : Int) (w : World), Nums w a la ca ns → -9223372036854775808 ≤ r ∧ r < 9223372036854775808 → -9223372036854775808 ≤ m ∧ m < 9223372036854775808 → -9223372036854775808 ≤ k ∧ k < 9223372036854775808 → Calls Tryz.prog 6 #[.slice a la ca, .int .i64 r, .int .i64 m, .int .i64 k] w fun e w' => RoomT ns r m k w e w'

theorem awake7_told {ls : List Int} {err : Int} (h : Told (codF [101] true [1]) (codV (nv [101]) (iv true [1])) ls err) : ls = [100] ∧ err = 0 := by
  have hf : codF [101] true [1] = none := by decide +kernel
  have hv : codV (nv [101]) (iv true [1]) = 100 := by decide +kernel
  rw [hf, hv] at h
  rcases h with ⟨e, h, _⟩ | ⟨_, h, rfl⟩
  · cases h
  · exact ⟨h.unique ⟨fun y hy => by simp at hy; subst hy; decide, by decide, by simp [val]⟩, rfl⟩

end Go.Proofs.YtambpcgdaogojabGreat

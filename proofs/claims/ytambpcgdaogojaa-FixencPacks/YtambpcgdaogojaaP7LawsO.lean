/-
  What stage 7's laws ask of the program's functions; the contract of awake.
-/
import Derived.Test.YtambpcgdaogojaaP7Few
import Derived.Test.YtambpcgdaogojaaF7Ans
import Derived.Laws.NewBlocks
namespace Go.Proofs.Ytambpcgdaogojaa
open Go.RowKit

/-- The program tells a whole number by a modulus. -/
def CodOk : Prop := ∀ (m : Bool) (a b : Option Addr) (la ca lb cb : Nat) (ns zs : List Int) (w : World), Nums w a la ca ns → Nums w b lb cb zs → Calls Try.prog 11 #[.slice a la ca, .agg #[.bool m, .slice b lb cb]] w fun e w' => TripT (codF ns m zs) (codV (nv ns) (iv m zs)) w e w'
/-- The program tells it again. -/
def DcOk : Prop := ∀ (a b : Option Addr) (la ca lb cb : Nat) (ns vs : List Int) (w : World), Nums w a la ca ns → Nums w b lb cb vs → Calls Try.prog 14 #[.slice a la ca, .slice b lb cb] w fun e w' => TripW (dcF ns vs) (dcV (nv ns) (nv vs)) w e w'
/-- The program puts two into one. -/
def PkOk : Prop := ∀ (a : Option Addr) (la ca : Nat) (ns : List Int) (s g h : Int) (w : World), Nums w a la ca ns → -9223372036854775808 ≤ s ∧ s < 9223372036854775808 → -9223372036854775808 ≤ g ∧ g < 9223372036854775808 → -9223372036854775808 ≤ h ∧ h < 9223372036854775808 → Calls Try.prog 17 #[.slice a la ca, .int .i64 s, .int .i64 g, .int .i64 h] w fun e w' => TripT (pkF ns s g h) (codV (nv ns) (pkX s g h)) w e w'
/-- The program tells the two of one. -/
def UpOk : Prop := ∀ (a b : Option Addr) (la ca lb cb : Nat) (ns vs : List Int) (s : Int) (w : World), Nums w a la ca ns → Nums w b lb cb vs → -9223372036854775808 ≤ s ∧ s < 9223372036854775808 → Calls Try.prog 19 #[.slice a la ca, .int .i64 s, .slice b lb cb] w fun e w' => PairT7 (upF ns s vs) (upG ns s vs) (upH ns s vs) w e w'
/-- The program tells how far the first one is moved. -/
def RmOk : Prop := ∀ (a : Option Addr) (la ca : Nat) (ns : List Int) (r m k : Int) (w : World), Nums w a la ca ns → -9223372036854775808 ≤ r ∧ r < 9223372036854775808 → -9223372036854775808 ≤ m ∧ m < 9223372036854775808 → -9223372036854775808 ≤ k ∧ k < 9223372036854775808 → Calls Try.prog 21 #[.slice a la ca, .int .i64 r, .int .i64 m, .int .i64 k] w fun e w' => RoomT ns r m k w e w'

theorem awake7_told {ls : List Int} {err : Int} (h : Told (codF [101] true [1]) (codV (nv [101]) (iv true [1])) ls err) : ls = [100] ∧ err = 0 := by
  have hf : codF [101] true [1] = none := by decide +kernel
  have hv : codV (nv [101]) (iv true [1]) = 100 := by decide +kernel
  rw [hf, hv] at h
  rcases h with ⟨e, h, _⟩ | ⟨_, h, rfl⟩
  · cases h
  · exact ⟨h.unique ⟨fun y hy => by simp at hy; subst hy; decide, by decide, by simp [val]⟩, rfl⟩

set_option maxRecDepth 20000 in
set_option maxHeartbeats 800000 in
theorem awake7_any (hE : CodOk) (w : World) : Calls Try.prog 10 #[] w fun e w' => e = .returned (.bool true) ∧ Below w.heap.size w w' := by
  have b1 := (Below.refl w.heap.size w).alloc (Nat.le_refl _) (.cells #[.int .u64 101] 52)
  have n1 := Nums.lit1 w 101 (by decide) 52
  have s1 : (w.alloc (.cells #[.int .u64 101] 52)).heap.size = w.heap.size + 1 := by simp
  go_enter Try.func10, Try.ntmps10
  go_wp2_with fail
  have b2 := (Below.refl (w.alloc (.cells #[.int .u64 101] 52)).heap.size (w.alloc (.cells #[.int .u64 101] 52))).alloc (Nat.le_refl _) (.cells #[.int .u64 1] 52)
  have n2 := Nums.lit1 (w.alloc (.cells #[.int .u64 101] 52)) 1 (by decide) 52
  rw [s1] at n2
  have k1 := n1.below b2
  have b12 := b1.trans (b2.mono b1.size)
  generalize (w.alloc (.cells #[.int .u64 101] 52)).alloc (.cells #[.int .u64 1] 52) = w2 at *
  refine (hE true _ _ _ _ _ _ _ _ w2 k1 n2).mono ?_
  rintro e w4 ⟨ra, rl, rc, ls, err, rfl, hN, hT, hb4⟩
  obtain ⟨rfl, rfl⟩ := awake7_told hT
  have B4 := b12.trans (hb4.mono b12.size)
  have hl := hN.hlen
  simp at hl
  subst hl
  obtain ⟨b, off, rfl, hc⟩ := hN.cells (by omega)
  have hc0 := hc 0 (by omega)
  simp at hc0
  have hcm := hN.hmax
  have hcc := hN.hcap
  unfold maxLen at hcm
  clear hE b1 n1 b2 n2 k1 b12 hN hT hc hb4 s1
  go_wp2
  go_ret
  exact ⟨rfl, B4⟩
end Go.Proofs.Ytambpcgdaogojaa

/-
  What a score is off by, and what a leaf adds, by definition.
-/
import Derived.Test.YtpeefhkadeoioaaNatA
namespace Go.Proofs.Ytpeefhkadeoioaa
open Go.RowKit

/-- A configuration. -/
structure Cfg where
  T : Int
  D : Int
  L : Int
  G : Int
  N : Int
  E : Int
  S : Int
  C : Int
def Cfg.vals (c : Cfg) : Array Value := #[.int .i64 c.T, .int .i64 c.D, .int .i64 c.L, .int .i64 c.G, .int .i64 c.N, .int .i64 c.E, .int .i64 c.S, .int .i64 c.C]
def B64 (x : Int) : Prop := -9223372036854775808 ≤ x ∧ x < 9223372036854775808
/-- A configuration may be. -/
structure CfgOk (c : Cfg) : Prop where
  t : 1 ≤ c.T ∧ c.T ≤ 16
  d : 1 ≤ c.D ∧ c.D ≤ 5
  l : 1 ≤ c.L ∧ c.L ≤ 1048576
  g : 0 ≤ c.G ∧ c.G ≤ 1048576
  e : 1 ≤ c.E ∧ c.E ≤ 1048576
  n : 1 ≤ c.N ∧ c.N ≤ c.E
  s : (c.S = 0 ∧ c.C = 0) ∨ (c.S = 1 ∧ 1 ≤ c.C ∧ c.C ≤ 1048576)
/-- The greatest size of a derivative. -/
def capG (c : Cfg) : Int := if c.S = 1 then c.C else 1048576
theorem capG_pos {c : Cfg} (h : CfgOk c) : 1 ≤ capG c ∧ capG c ≤ 1048576 := by
  unfold capG
  split
  · rcases h.s with ⟨h1, -⟩ | ⟨-, h2, h3⟩
    · omega
    · exact ⟨h2, h3⟩
  · omega
def gradV (c : Cfg) (s l : Int) : Int := max (-capG c) (min (capG c) (s - l))
def GradArg (c : Cfg) (s l : Int) : Prop := CfgOk c ∧ -1099511627776 ≤ s ∧ s ≤ 1099511627776 ∧ -1048576 ≤ l ∧ l ≤ 1048576
def ResGrad (c : Cfg) (s l : Int) (g e : Int) : Prop := (¬ GradArg c s l ∧ g = 0 ∧ e = 1) ∨ (GradArg c s l ∧ g = gradV c s l ∧ e = 0)
theorem ResGrad.unique {c : Cfg} {s l g g' e e' : Int} (h : ResGrad c s l g e) (k : ResGrad c s l g' e') : g = g' ∧ e = e' := by
  rcases h with ⟨h1, h2, h3⟩ | ⟨h1, h2, h3⟩ <;> rcases k with ⟨k1, k2, k3⟩ | ⟨k1, k2, k3⟩
  · exact ⟨by rw [h2, k2], by rw [h3, k3]⟩
  · exact absurd k1 h1
  · exact absurd h1 k1
  · exact ⟨by rw [h2, k2], by rw [h3, k3]⟩
/-- Sums may be. -/
def SumOk (G H : Int) : Prop := -1099511627776 ≤ G ∧ G ≤ 1099511627776 ∧ 0 ≤ H ∧ H ≤ 1048576
def weightV (c : Cfg) (G H : Int) : Int := (-G * c.N) / ((H + c.L) * c.E)
def ResWeight (c : Cfg) (G H : Int) (w e : Int) : Prop := (¬ (CfgOk c ∧ SumOk G H) ∧ w = 0 ∧ e = 1) ∨ ((CfgOk c ∧ SumOk G H) ∧ w = weightV c G H ∧ e = 0)
theorem ResWeight.unique {c : Cfg} {G H w w' e e' : Int} (h : ResWeight c G H w e) (k : ResWeight c G H w' e') : w = w' ∧ e = e' := by
  rcases h with ⟨h1, h2, h3⟩ | ⟨h1, h2, h3⟩ <;> rcases k with ⟨k1, k2, k3⟩ | ⟨k1, k2, k3⟩
  · exact ⟨by rw [h2, k2], by rw [h3, k3]⟩
  · exact absurd k1 h1
  · exact absurd h1 k1
  · exact ⟨by rw [h2, k2], by rw [h3, k3]⟩
theorem ResGrad.ok {c : Cfg} {s l g : Int} (h : ResGrad c s l g 0) : GradArg c s l ∧ g = gradV c s l := by
  rcases h with ⟨-, -, h3⟩ | ⟨h1, h2, -⟩
  · cases h3
  · exact ⟨h1, h2⟩
theorem ResWeight.ok {c : Cfg} {G H w : Int} (h : ResWeight c G H w 0) : (CfgOk c ∧ SumOk G H) ∧ w = weightV c G H := by
  rcases h with ⟨-, -, h3⟩ | ⟨h1, h2, -⟩
  · cases h3
  · exact ⟨h1, h2⟩
/-- A greater score has no lesser derivative, and its sign is right. -/
theorem gradV_rises {c : Cfg} (h : CfgOk c) {lo hi l : Int} (hl : lo ≤ hi) : gradV c lo l ≤ gradV c hi l ∧ (0 < gradV c lo l ↔ l < lo) ∧ (gradV c lo l < 0 ↔ lo < l) := by
  have hm := capG_pos h
  unfold gradV
  refine ⟨?_, ?_, ?_⟩
  · omega
  · constructor <;> omega
  · constructor <;> omega
theorem gradV_size {c : Cfg} (h : CfgOk c) (s l : Int) : -1048576 ≤ gradV c s l ∧ gradV c s l ≤ 1048576 := by
  have hm := capG_pos h
  unfold gradV
  omega
theorem den_pos16 {c : Cfg} (h : CfgOk c) {G H : Int} (hs : SumOk G H) : c.N ≤ (H + c.L) * c.E ∧ 0 < (H + c.L) * c.E ∧ (H + c.L) * c.E ≤ 2199023255552 ∧ 1 ≤ H + c.L ∧ H + c.L ≤ 2097152 := by
  have h1 := h.l
  have h2 := h.e
  have h3 := h.n
  have h4 := hs.2.2
  have h5 : 1 * c.E ≤ (H + c.L) * c.E := Int.mul_le_mul_of_nonneg_right (by omega) (by omega)
  have h6 : (H + c.L) * c.E ≤ 2097152 * 1048576 := Int.mul_le_mul (by omega) (by omega) (by omega) (by omega)
  refine ⟨by omega, by omega, by omega, by omega, by omega⟩
theorem num_size {c : Cfg} (h : CfgOk c) {G H : Int} (hs : SumOk G H) : -1152921504606846976 ≤ -G * c.N ∧ -G * c.N ≤ 1152921504606846976 := by
  have h2 := h.e
  have h3 := h.n
  have h4 := hs.1
  have h5 := hs.2.1
  have h6 : -G * c.N ≤ 1099511627776 * c.N := Int.mul_le_mul_of_nonneg_right (by omega) (by omega)
  have h7 : -1099511627776 * c.N ≤ -G * c.N := Int.mul_le_mul_of_nonneg_right (by omega) (by omega)
  omega
/-- The weight's sign and size. -/
theorem weightV_signs {c : Cfg} (h : CfgOk c) {G H : Int} (hs : SumOk G H) : (weightV c G H < 0 ↔ 0 < G) ∧ weightV c G H ≤ max 0 (-G) ∧ min 0 (-G) ≤ weightV c G H := by
  obtain ⟨h1, h2, h3, -⟩ := den_pos16 h hs
  have hn := h.n
  unfold weightV
  generalize (H + c.L) * c.E = d at *
  have e1 : 0 ≤ G → -G * c.N ≤ 0 := fun q => by
    have := Int.mul_le_mul_of_nonneg_right (show -G ≤ 0 by omega) (show 0 ≤ c.N by omega)
    omega
  have e2 : G ≤ 0 → 0 ≤ -G * c.N := fun q => Int.mul_nonneg (by omega) (by omega)
  have e3 : 0 < G → -G * c.N < 0 := fun q => by
    have := Int.mul_lt_mul_of_pos_right (show -G < 0 by omega) (show 0 < c.N by omega)
    omega
  have e4 : G ≤ 0 → -G * c.N ≤ -G * d := fun q => Int.mul_le_mul_of_nonneg_left h1 (by omega)
  have e5 : 0 ≤ G → -G * d ≤ -G * c.N := fun q => by
    have := Int.mul_le_mul_of_nonneg_left h1 q
    rw [Int.neg_mul, Int.neg_mul]
    omega
  refine ⟨⟨fun q => ?_, fun q => ?_⟩, ?_, ?_⟩
  · by_cases c0 : 0 < G
    · exact c0
    · have := Int.ediv_nonneg (e2 (by omega)) (show 0 ≤ d by omega)
      omega
  · exact Int.ediv_neg_of_neg_of_pos (e3 q) h2
  · by_cases c0 : G ≤ 0
    · have := Int.ediv_le_of_le_mul h2 (e4 c0)
      omega
    · have := Int.ediv_le_of_le_mul h2 (show -G * c.N ≤ 0 * d by have := e1 (by omega); omega)
      omega
  · by_cases c0 : 0 ≤ G
    · have := Int.le_ediv_of_mul_le h2 (e5 c0)
      omega
    · have := Int.ediv_nonneg (e2 (by omega)) (show 0 ≤ d by omega)
      omega
theorem weightV_small {c : Cfg} (h : CfgOk c) {G H : Int} (hs : SumOk G H) : -1099511627776 ≤ weightV c G H ∧ weightV c G H ≤ 1099511627776 := by
  have h1 := weightV_signs h hs
  have h2 := hs.1
  have h3 := hs.2.1
  omega
end Go.Proofs.Ytpeefhkadeoioaa

/-
  What a score is off by, and what a leaf adds, by definition.
  What a split is worth, by definition: fractions in lowest terms; the best of a list.
  The best of a list: kept place by place; of a list that begins elsewhere.
  A gain is made of three scores: sizes; nothing overflows what a fraction may be.
-/
import Derived.Test.YtchmlfjjgehbkaaNatA
import Derived.Test.YtchmlfjjgehbkaaR8C
namespace Go.Proofs.Ytchmlfjjgehbkaa
open Go.RowKit

/-- A configuration. -/
structure Cfg where
  T : Int
  D : Int
  L : Int
  G : Int
  N : Int
  E : Int
  S : Int
  C : Int
def Cfg.vals (c : Cfg) : Array Value := #[.int .i64 c.T, .int .i64 c.D, .int .i64 c.L, .int .i64 c.G, .int .i64 c.N, .int .i64 c.E, .int .i64 c.S, .int .i64 c.C]
def B64 (x : Int) : Prop := -9223372036854775808 ≤ x ∧ x < 9223372036854775808
/-- A configuration may be. -/
structure CfgOk (c : Cfg) : Prop where
  t : 1 ≤ c.T ∧ c.T ≤ 16
  d : 1 ≤ c.D ∧ c.D ≤ 5
  l : 1 ≤ c.L ∧ c.L ≤ 1048576
  g : 0 ≤ c.G ∧ c.G ≤ 1048576
  e : 1 ≤ c.E ∧ c.E ≤ 1048576
  n : 1 ≤ c.N ∧ c.N ≤ c.E
  s : (c.S = 0 ∧ c.C = 0) ∨ (c.S = 1 ∧ 1 ≤ c.C ∧ c.C ≤ 1048576)
/-- The greatest size of a derivative. -/
def capG (c : Cfg) : Int := if c.S = 1 then c.C else 1048576
theorem capG_pos {c : Cfg} (h : CfgOk c) : 1 ≤ capG c ∧ capG c ≤ 1048576 := by
  unfold capG
  split
  · rcases h.s with ⟨h1, -⟩ | ⟨-, h2, h3⟩
    · omega
    · exact ⟨h2, h3⟩
  · omega
def gradV (c : Cfg) (s l : Int) : Int := max (-capG c) (min (capG c) (s - l))
def GradArg (c : Cfg) (s l : Int) : Prop := CfgOk c ∧ -1099511627776 ≤ s ∧ s ≤ 1099511627776 ∧ -1048576 ≤ l ∧ l ≤ 1048576
def ResGrad (c : Cfg) (s l : Int) (g e : Int) : Prop := (¬ GradArg c s l ∧ g = 0 ∧ e = 1) ∨ (GradArg c s l ∧ g = gradV c s l ∧ e = 0)
theorem ResGrad.unique {c : Cfg} {s l g g' e e' : Int} (h : ResGrad c s l g e) (k : ResGrad c s l g' e') : g = g' ∧ e = e' := by
  rcases h with ⟨h1, h2, h3⟩ | ⟨h1, h2, h3⟩ <;> rcases k with ⟨k1, k2, k3⟩ | ⟨k1, k2, k3⟩
  · exact ⟨by rw [h2, k2], by rw [h3, k3]⟩
  · exact absurd k1 h1
  · exact absurd h1 k1
  · exact ⟨by rw [h2, k2], by rw [h3, k3]⟩
/-- Sums may be. -/
def SumOk (G H : Int) : Prop := -1099511627776 ≤ G ∧ G ≤ 1099511627776 ∧ 0 ≤ H ∧ H ≤ 1048576
def weightV (c : Cfg) (G H : Int) : Int := (-G * c.N) / ((H + c.L) * c.E)
def ResWeight (c : Cfg) (G H : Int) (w e : Int) : Prop := (¬ (CfgOk c ∧ SumOk G H) ∧ w = 0 ∧ e = 1) ∨ ((CfgOk c ∧ SumOk G H) ∧ w = weightV c G H ∧ e = 0)
theorem ResWeight.unique {c : Cfg} {G H w w' e e' : Int} (h : ResWeight c G H w e) (k : ResWeight c G H w' e') : w = w' ∧ e = e' := by
  rcases h with ⟨h1, h2, h3⟩ | ⟨h1, h2, h3⟩ <;> rcases k with ⟨k1, k2, k3⟩ | ⟨k1, k2, k3⟩
  · exact ⟨by rw [h2, k2], by rw [h3, k3]⟩
  · exact absurd k1 h1
  · exact absurd h1 k1
  · exact ⟨by rw [h2, k2], by rw [h3, k3]⟩
theorem ResGrad.ok {c : Cfg} {s l g : Int} (h : ResGrad c s l g 0) : GradArg c s l ∧ g = gradV c s l := by
  rcases h with ⟨-, -, h3⟩ | ⟨h1, h2, -⟩
  · cases h3
  · exact ⟨h1, h2⟩
theorem ResWeight.ok {c : Cfg} {G H w : Int} (h : ResWeight c G H w 0) : (CfgOk c ∧ SumOk G H) ∧ w = weightV c G H := by
  rcases h with ⟨-, -, h3⟩ | ⟨h1, h2, -⟩
  · cases h3
  · exact ⟨h1, h2⟩
/-- A greater score has no lesser derivative, and its sign is right. -/
theorem gradV_rises {c : Cfg} (h : CfgOk c) {lo hi l : Int} (hl : lo ≤ hi) : gradV c lo l ≤ gradV c hi l ∧ (0 < gradV c lo l ↔ l < lo) ∧ (gradV c lo l < 0 ↔ lo < l) := by
  have hm := capG_pos h
  unfold gradV
  refine ⟨?_, ?_, ?_⟩
  · omega
  · constructor <;> omega
  · constructor <;> omega
theorem gradV_size {c : Cfg} (h : CfgOk c) (s l : Int) : -1048576 ≤ gradV c s l ∧ gradV c s l ≤ 1048576 := by
  have hm := capG_pos h
  unfold gradV
  omega
theorem den_pos16 {c : Cfg} (h : CfgOk c) {G H : Int} (hs : SumOk G H) : c.N ≤ (H + c.L) * c.E ∧ 0 < (H + c.L) * c.E ∧ (H + c.L) * c.E ≤ 2199023255552 ∧ 1 ≤ H + c.L ∧ H + c.L ≤ 2097152 := by
  have h1 := h.l
  have h2 := h.e
  have h3 := h.n
  have h4 := hs.2.2
  have h5 : 1 * c.E ≤ (H + c.L) * c.E := Int.mul_le_mul_of_nonneg_right (by omega) (by omega)
  have h6 : (H + c.L) * c.E ≤ 2097152 * 1048576 := Int.mul_le_mul (by omega) (by omega) (by omega) (by omega)
  refine ⟨by omega, by omega, by omega, by omega, by omega⟩
theorem num_size {c : Cfg} (h : CfgOk c) {G H : Int} (hs : SumOk G H) : -1152921504606846976 ≤ -G * c.N ∧ -G * c.N ≤ 1152921504606846976 := by
  have h2 := h.e
  have h3 := h.n
  have h4 := hs.1
  have h5 := hs.2.1
  have h6 : -G * c.N ≤ 1099511627776 * c.N := Int.mul_le_mul_of_nonneg_right (by omega) (by omega)
  have h7 : -1099511627776 * c.N ≤ -G * c.N := Int.mul_le_mul_of_nonneg_right (by omega) (by omega)
  omega
/-- The weight's sign and size. -/
theorem weightV_signs {c : Cfg} (h : CfgOk c) {G H : Int} (hs : SumOk G H) : (weightV c G H < 0 ↔ 0 < G) ∧ weightV c G H ≤ max 0 (-G) ∧ min 0 (-G) ≤ weightV c G H := by
  obtain ⟨h1, h2, h3, -⟩ := den_pos16 h hs
  have hn := h.n
  unfold weightV
  generalize (H + c.L) * c.E = d at *
  have e1 : 0 ≤ G → -G * c.N ≤ 0 := fun q => by
    have := Int.mul_le_mul_of_nonneg_right (show -G ≤ 0 by omega) (show 0 ≤ c.N by omega)
    omega
  have e2 : G ≤ 0 → 0 ≤ -G * c.N := fun q => Int.mul_nonneg (by omega) (by omega)
  have e3 : 0 < G → -G * c.N < 0 := fun q => by
    have := Int.mul_lt_mul_of_pos_right (show -G < 0 by omega) (show 0 < c.N by omega)
    omega
  have e4 : G ≤ 0 → -G * c.N ≤ -G * d := fun q => Int.mul_le_mul_of_nonneg_left h1 (by omega)
  have e5 : 0 ≤ G → -G * d ≤ -G * c.N := fun q => by
    have := Int.mul_le_mul_of_nonneg_left h1 q
    rw [Int.neg_mul, Int.neg_mul]
    omega
  refine ⟨⟨fun q => ?_, fun q => ?_⟩, ?_, ?_⟩
  · by_cases c0 : 0 < G
    · exact c0
    · have := Int.ediv_nonneg (e2 (by omega)) (show 0 ≤ d by omega)
      omega
  · exact Int.ediv_neg_of_neg_of_pos (e3 q) h2
  · by_cases c0 : G ≤ 0
    · have := Int.ediv_le_of_le_mul h2 (e4 c0)
      omega
    · have := Int.ediv_le_of_le_mul h2 (show -G * c.N ≤ 0 * d by have := e1 (by omega); omega)
      omega
  · by_cases c0 : 0 ≤ G
    · have := Int.le_ediv_of_mul_le h2 (e5 c0)
      omega
    · have := Int.ediv_nonneg (e2 (by omega)) (show 0 ≤ d by omega)
      omega
theorem weightV_small {c : Cfg} (h : CfgOk c) {G H : Int} (hs : SumOk G H) : -1099511627776 ≤ weightV c G H ∧ weightV c G H ≤ 1099511627776 := by
  have h1 := weightV_signs h hs
  have h2 := hs.1
  have h3 := hs.2.1
  omega
end Go.Proofs.Ytchmlfjjgehbkaa

namespace Go.Proofs.Ytchmlfjjgehbkaa
open Go.RowKit

/- A fraction in lowest terms hangs on its value alone. -/
theorem low_same17 {x u : Int} {y v : Nat} (hy : 0 < y) (hv : 0 < v) (h : x * (v : Int) = u * (y : Int)) : numF x y = numF u v ∧ denF x y = denF u v := by
  refine low_of hy (den_pos hv) (num_den hv) ?_
  have h1 := gF_num u v
  have h2 := gF_den u v
  have hg := gF_pos (x := u) hv
  refine Int.eq_of_mul_eq_mul_right (a := (gF u v : Int)) (by omega) ?_
  have e1 : x * (denF u v : Int) * (gF u v : Int) = x * (v : Int) := by rw [Int.mul_assoc, ← Int.natCast_mul, h2]
  have e2 : numF u v * (y : Int) * (gF u v : Int) = numF u v * (gF u v : Int) * (y : Int) := by rw [Int.mul_assoc, Int.mul_comm (y : Int), ← Int.mul_assoc]
  rw [e1, e2, h1, h]
theorem low_value17 (x : Int) {y : Nat} (hy : 0 < y) : numF x y * (y : Int) = x * (denF x y : Int) := by
  have h1 := gF_num x y
  have h2 := gF_den x y
  have hg := gF_pos (x := x) hy
  refine Int.eq_of_mul_eq_mul_right (a := (gF x y : Int)) (by omega) ?_
  have e1 : x * (denF x y : Int) * (gF x y : Int) = x * (y : Int) := by rw [Int.mul_assoc, ← Int.natCast_mul, h2]
  have e2 : numF x y * (y : Int) * (gF x y : Int) = numF x y * (gF x y : Int) * (y : Int) := by rw [Int.mul_assoc, Int.mul_comm (y : Int), ← Int.mul_assoc]
  rw [e1, e2, h1]
theorem denF_le17 (x : Int) (y : Nat) : denF x y ≤ y := Nat.div_le_self _ _
theorem numF_le17 (x : Int) (y : Nat) : (numF x y).natAbs ≤ x.natAbs := by rw [num_abs]; exact Nat.div_le_self _ _
/-- Small fractions may be told. -/
theorem makF_small17 {x : Int} {y : Nat} (hy : 0 < y) (h1 : x.natAbs < 18446744073709551616 ^ 16) (h2 : y < 18446744073709551616 ^ 16) : makF x y = none :=
  makF_some hy (Nat.lt_of_le_of_lt (numF_le17 x y) h1) (Nat.lt_of_le_of_lt (denF_le17 x y) h2)
/-- The sum, the difference, of two in lowest terms. -/
theorem low_add17 {x u : Int} {y v : Nat} (hy : 0 < y) (hv : 0 < v) : numF (numF x y * (denF u v : Int) + numF u v * (denF x y : Int)) (denF x y * denF u v) = numF (x * v + u * y) (y * v) ∧ denF (numF x y * (denF u v : Int) + numF u v * (denF x y : Int)) (denF x y * denF u v) = denF (x * v + u * y) (y * v) := by
  refine low_same17 (Nat.mul_pos (den_pos hy) (den_pos hv)) (Nat.mul_pos hy hv) ?_
  have h1 := low_value17 x hy
  have h2 := low_value17 u hv
  generalize numF x y = a at *
  generalize denF x y = b at *
  generalize numF u v = c at *
  generalize denF u v = d at *
  push_cast
  calc (a * (d : Int) + c * b) * (y * v) = (a * y) * (d * v) + (c * v) * (b * y) := by grind
    _ = (x * b) * (d * v) + (u * d) * (b * y) := by rw [h1, h2]
    _ = (x * v + u * y) * (b * d) := by grind
theorem low_sub17 {x u : Int} {y v : Nat} (hy : 0 < y) (hv : 0 < v) : numF (numF x y * (denF u v : Int) - numF u v * (denF x y : Int)) (denF x y * denF u v) = numF (x * v - u * y) (y * v) ∧ denF (numF x y * (denF u v : Int) - numF u v * (denF x y : Int)) (denF x y * denF u v) = denF (x * v - u * y) (y * v) := by
  refine low_same17 (Nat.mul_pos (den_pos hy) (den_pos hv)) (Nat.mul_pos hy hv) ?_
  have h1 := low_value17 x hy
  have h2 := low_value17 u hv
  generalize numF x y = a at *
  generalize denF x y = b at *
  generalize numF u v = c at *
  generalize denF u v = d at *
  push_cast
  calc (a * (d : Int) - c * b) * (y * v) = (a * y) * (d * v) - (c * v) * (b * y) := by grind
    _ = (x * b) * (d * v) - (u * d) * (b * y) := by rw [h1, h2]
    _ = (x * v - u * y) * (b * d) := by grind

/- Fractions, not in lowest terms, as pairs; their order. -/
abbrev Q17 := Int × Nat
def le17 (p q : Q17) : Prop := p.1 * (q.2 : Int) ≤ q.1 * (p.2 : Int)
def lt17 (p q : Q17) : Prop := p.1 * (q.2 : Int) < q.1 * (p.2 : Int)
def low17 (p : Q17) : Q17 := (numF p.1 p.2, denF p.1 p.2)
theorem lt_le17 {p q : Q17} : lt17 p q ↔ ¬ le17 q p := by unfold lt17 le17; omega
theorem le_total17 (p q : Q17) : le17 p q ∨ le17 q p := by unfold le17; omega
theorem le_refl17 (p : Q17) : le17 p p := Int.le_refl _
theorem le_trans17 {p q r : Q17} (hp : 0 < p.2) (hq : 0 < q.2) (hr : 0 < r.2) (h : le17 p q) (k : le17 q r) : le17 p r := by
  unfold le17 at *
  have h1 := Int.mul_le_mul_of_nonneg_right h (show (0 : Int) ≤ r.2 by omega)
  have h2 := Int.mul_le_mul_of_nonneg_right k (show (0 : Int) ≤ p.2 by omega)
  have h3 : p.1 * (r.2 : Int) * q.2 ≤ r.1 * (p.2 : Int) * q.2 := by
    calc p.1 * (r.2 : Int) * q.2 = p.1 * (q.2 : Int) * r.2 := by grind
      _ ≤ q.1 * (p.2 : Int) * r.2 := h1
      _ = q.1 * (r.2 : Int) * p.2 := by grind
      _ ≤ r.1 * (q.2 : Int) * p.2 := h2
      _ = r.1 * (p.2 : Int) * q.2 := by grind
  exact Int.le_of_mul_le_mul_right h3 (by omega)
theorem low_le17 {p q : Q17} (hp : 0 < p.2) (hq : 0 < q.2) : le17 (low17 p) (low17 q) ↔ le17 p q := by
  have a1 : le17 (low17 p) p := by have := low_value17 p.1 hp; unfold le17 low17; simp only; omega
  have a2 : le17 p (low17 p) := by have := low_value17 p.1 hp; unfold le17 low17; simp only; omega
  have b1 : le17 (low17 q) q := by have := low_value17 q.1 hq; unfold le17 low17; simp only; omega
  have b2 : le17 q (low17 q) := by have := low_value17 q.1 hq; unfold le17 low17; simp only; omega
  have c1 : 0 < (low17 p).2 := den_pos hp
  have c2 : 0 < (low17 q).2 := den_pos hq
  exact ⟨fun h => le_trans17 hp c1 hq a2 (le_trans17 c1 c2 hq h b1), fun h => le_trans17 c1 hp c2 a1 (le_trans17 hp hq c2 h b2)⟩
theorem low_cmp17 {p q : Q17} (hp : 0 < p.2) (hq : 0 < q.2) : cmpZ (numF p.1 p.2 * (denF q.1 q.2 : Int)) (numF q.1 q.2 * (denF p.1 p.2 : Int)) = cmpZ (p.1 * (q.2 : Int)) (q.1 * (p.2 : Int)) := by
  have h1 := low_le17 hp hq
  have h2 := low_le17 hq hp
  unfold le17 low17 at h1 h2
  simp only at h1 h2
  unfold cmpZ
  repeat' split
  all_goals omega

/- What rows are worth, what a split adds. -/
def LamOk (l : Int) : Prop := 1 ≤ l ∧ l ≤ 1048576
def scoreQ (l G H : Int) : Q17 := (G * G, (H + l).toNat)
def ScoreArg (l G H : Int) : Prop := LamOk l ∧ SumOk G H
def GainArg (l G H A B : Int) : Prop := LamOk l ∧ SumOk G H ∧ SumOk A B ∧ SumOk (A - G) (B - H)
def gainQ (l G H A B : Int) : Q17 := (G * G * (B - H + l) * (B + l) + (A - G) * (A - G) * (H + l) * (B + l) - A * A * (H + l) * (B - H + l), ((H + l) * (B - H + l) * (B + l)).toNat)
theorem scoreQ_pos {l G H : Int} (h : ScoreArg l G H) : 0 < (scoreQ l G H).2 ∧ ((scoreQ l G H).2 : Int) = H + l ∧ H + l ≤ 2097152 := by
  have h1 := h.1.1
  have h2 := h.1.2
  have h3 := h.2.2.2
  unfold scoreQ
  simp only
  omega
theorem gain_dens {l G H A B : Int} (h : GainArg l G H A B) : 0 < H + l ∧ H + l ≤ 2097152 ∧ 0 < B - H + l ∧ B - H + l ≤ 2097152 ∧ 0 < B + l ∧ B + l ≤ 2097152 := by
  have h1 := h.1
  have h2 := h.2.1.2.2
  have h3 := h.2.2.1.2.2
  have h4 := h.2.2.2.2.2
  unfold LamOk at h1
  omega
theorem gainQ_den {l G H A B : Int} (h : GainArg l G H A B) : 0 < (gainQ l G H A B).2 ∧ ((gainQ l G H A B).2 : Int) = (H + l) * (B - H + l) * (B + l) ∧ (gainQ l G H A B).2 ≤ 9223372036854775808 := by
  obtain ⟨h1, h2, h3, h4, h5, h6⟩ := gain_dens h
  have k1 : 0 < (H + l) * (B - H + l) * (B + l) := Int.mul_pos (Int.mul_pos h1 h3) h5
  have k2 : (H + l) * (B - H + l) ≤ 2097152 * 2097152 := Int.mul_le_mul h2 h4 (by omega) (by omega)
  have k3 : (H + l) * (B - H + l) * (B + l) ≤ 2097152 * 2097152 * 2097152 := Int.mul_le_mul k2 h6 (by omega) (by omega)
  unfold gainQ
  simp only
  omega
/-- Left and right exchanged. -/
theorem gainQ_both (l G H A B : Int) : gainQ l (A - G) (B - H) A B = gainQ l G H A B := by
  unfold gainQ
  refine Prod.ext ?_ ?_
  · show (A - G) * (A - G) * (B - (B - H) + l) * (B + l) + (A - (A - G)) * (A - (A - G)) * (B - H + l) * (B + l) - A * A * (B - H + l) * (B - (B - H) + l) = _
    rw [show B - (B - H) = H by omega, show A - (A - G) = G by omega]
    grind
  · show ((B - H + l) * (B - (B - H) + l) * (B + l)).toNat = _
    rw [show B - (B - H) = H by omega, Int.mul_comm (B - H + l)]
/-- Of no left rows. -/
theorem gainQ_none (l A B : Int) : (gainQ l 0 0 A B).1 = 0 := by
  unfold gainQ
  simp only
  rw [show B - 0 = B by omega, show A - 0 = A by omega, show (0 : Int) + l = l by omega]
  grind
theorem gain_arg_both {l G H A B : Int} (h : GainArg l G H A B) : GainArg l (A - G) (B - H) A B := by
  obtain ⟨h1, h2, h3, h4⟩ := h
  refine ⟨h1, h4, h3, ?_⟩
  rw [show A - (A - G) = G by omega, show B - (B - H) = H by omega]
  exact h2
theorem gain_arg_none {l A B : Int} (h1 : LamOk l) (h2 : SumOk A B) : GainArg l 0 0 A B := ⟨h1, ⟨by omega, by omega, by omega, by omega⟩, h2, by rw [show A - 0 = A by omega, show B - 0 = B by omega]; exact h2⟩
theorem low_zero17 {y : Nat} (hy : 0 < y) : numF 0 y = 0 ∧ denF 0 y = 1 := low_of hy (by decide) (by decide) (by simp)

/- The best of a list. -/
/-- Of the places below n at which f says something, above g: those at which it says most, rising. -/
structure IsBest17 (n : Nat) (f : Nat → Option Q17) (g : Q17) (xs : List Int) : Prop where
  rise : xs.Pairwise (· < ·)
  mem : ∀ x : Int, x ∈ xs ↔ ∃ j : Nat, x = j ∧ j < n ∧ ∃ p, f j = some p ∧ lt17 g p ∧ ∀ k q, k < n → f k = some q → le17 q p
theorem IsBest17.unique {n : Nat} {f : Nat → Option Q17} {g : Q17} {xs ys : List Int} (h : IsBest17 n f g xs) (k : IsBest17 n f g ys) : xs = ys := by
  have p : xs.Perm ys := (List.perm_ext_iff_of_nodup (h.rise.imp fun {a b} h => by intro e; omega) (k.rise.imp fun {a b} h => by intro e; omega)).2 fun x => (h.mem x).trans (k.mem x).symm
  exact List.Perm.eq_of_pairwise (le := fun a b => a < b) (fun a b _ _ h1 h2 => by omega) h.rise k.rise p
end Go.Proofs.Ytchmlfjjgehbkaa

namespace Go.Proofs.Ytchmlfjjgehbkaa
open Go.RowKit

/-- All fractions have denominators. -/
def Pos17 (f : Nat → Option Q17) (g : Q17) : Prop := 0 < g.2 ∧ ∀ k p, f k = some p → 0 < p.2
/-- What is kept of the places below i: the most so far, and where it was. -/
structure Kept17 (f : Nat → Option Q17) (g : Q17) (i : Nat) (b : Q17) (xs : List Int) : Prop where
  pos : 0 < b.2
  from_ : le17 g b
  none_ : xs = [] → le17 b g
  some_ : xs ≠ [] → lt17 g b
  most : ∀ k q, k < i → f k = some q → le17 q b
  rise : xs.Pairwise (· < ·)
  mem : ∀ x : Int, x ∈ xs ↔ ∃ j : Nat, x = j ∧ j < i ∧ ∃ p, f j = some p ∧ lt17 g p ∧ le17 b p
theorem Kept17.start {f : Nat → Option Q17} {g : Q17} (h : Pos17 f g) : Kept17 f g 0 g [] :=
  ⟨h.1, le_refl17 _, fun _ => le_refl17 _, fun e => absurd rfl e, fun _ _ q => absurd q (by omega), List.Pairwise.nil, fun x => ⟨fun e => (by cases e), fun ⟨j, _, h, _⟩ => absurd h (by omega)⟩⟩
theorem Kept17.skip {f : Nat → Option Q17} {g b : Q17} {i : Nat} {xs : List Int} (h : Kept17 f g i b xs) (hn : f i = none) : Kept17 f g (i + 1) b xs := by
  refine ⟨h.pos, h.from_, h.none_, h.some_, fun k q hk hq => ?_, h.rise, fun x => (h.mem x).trans ⟨?_, ?_⟩⟩
  · by_cases e : k = i
    · subst e; rw [hn] at hq; cases hq
    · exact h.most k q (by omega) hq
  · rintro ⟨j, h1, h2, h3⟩; exact ⟨j, h1, by omega, h3⟩
  · rintro ⟨j, h1, h2, p, h3, h4⟩
    by_cases e : j = i
    · subst e; rw [hn] at h3; cases h3
    · exact ⟨j, h1, by omega, p, h3, h4⟩
theorem lt_trans17 {p q r : Q17} (hp : 0 < p.2) (hq : 0 < q.2) (hr : 0 < r.2) (h : lt17 p q) (k : le17 q r) : lt17 p r := by
  rw [lt_le17] at *
  exact fun e => h (le_trans17 hq hr hp k e)
theorem le_lt17 {p q r : Q17} (hp : 0 < p.2) (hq : 0 < q.2) (hr : 0 < r.2) (h : le17 p q) (k : lt17 q r) : lt17 p r := by
  rw [lt_le17] at *
  exact fun e => k (le_trans17 hr hp hq e h)
theorem lt_le_of17 {p q : Q17} (h : lt17 p q) : le17 p q := by unfold lt17 le17 at *; omega
theorem Kept17.more {f : Nat → Option Q17} {g b p : Q17} {i : Nat} {xs : List Int} (P : Pos17 f g) (h : Kept17 f g i b xs) (hf : f i = some p) (hl : lt17 b p) : Kept17 f g (i + 1) p [(i : Int)] := by
  have hp := P.2 i p hf
  have gp : lt17 g p := le_lt17 P.1 h.pos hp h.from_ hl
  refine ⟨hp, lt_le_of17 gp, fun e => (by cases e), fun _ => gp, fun k q hk hq => ?_, List.pairwise_singleton _ _, fun x => ⟨fun e => ?_, ?_⟩⟩
  · by_cases e : k = i
    · subst e; rw [hf] at hq; cases hq; exact le_refl17 _
    · exact le_trans17 (P.2 k q hq) h.pos hp (h.most k q (by omega) hq) (lt_le_of17 hl)
  · exact ⟨i, by simpa using e, by omega, p, hf, gp, le_refl17 _⟩
  · rintro ⟨j, h1, h2, q, h3, h4, h5⟩
    by_cases e : j = i
    · subst e; simp [h1]
    · have := le_trans17 hp (P.2 j q h3) h.pos h5 (h.most j q (by omega) h3)
      exact absurd this (lt_le17.1 hl)
theorem Kept17.same {f : Nat → Option Q17} {g b p : Q17} {i : Nat} {xs : List Int} (P : Pos17 f g) (h : Kept17 f g i b xs) (hf : f i = some p) (h1 : le17 p b) (h2 : le17 b p) (hx : xs ≠ []) : Kept17 f g (i + 1) b (xs ++ [(i : Int)]) := by
  have hp := P.2 i p hf
  refine ⟨h.pos, h.from_, fun e => (by simp at e), fun _ => h.some_ hx, fun k q hk hq => ?_, ?_, fun x => ?_⟩
  · by_cases e : k = i
    · subst e; rw [hf] at hq; cases hq; exact h1
    · exact h.most k q (by omega) hq
  · refine List.pairwise_append.2 ⟨h.rise, List.pairwise_singleton _ _, fun a ha c hc => ?_⟩
    obtain ⟨j, e1, e2, _⟩ := (h.mem a).1 ha
    have : c = (i : Int) := by simpa using hc
    omega
  · rw [List.mem_append, h.mem x]
    constructor
    · rintro (⟨j, e1, e2, e3⟩ | e)
      · exact ⟨j, e1, by omega, e3⟩
      · exact ⟨i, by simpa using e, by omega, p, hf, lt_trans17 P.1 h.pos hp (h.some_ hx) h2, h2⟩
    · rintro ⟨j, e1, e2, e3⟩
      by_cases e : j = i
      · subst e; exact .inr (by simp [e1])
      · exact .inl ⟨j, e1, by omega, e3⟩
theorem Kept17.less {f : Nat → Option Q17} {g b p : Q17} {i : Nat} {xs : List Int} (P : Pos17 f g) (h : Kept17 f g i b xs) (hf : f i = some p) (h1 : le17 p b) (h2 : le17 b p → xs = []) : Kept17 f g (i + 1) b xs := by
  have hp := P.2 i p hf
  refine ⟨h.pos, h.from_, h.none_, h.some_, fun k q hk hq => ?_, h.rise, fun x => (h.mem x).trans ⟨?_, ?_⟩⟩
  · by_cases e : k = i
    · subst e; rw [hf] at hq; cases hq; exact h1
    · exact h.most k q (by omega) hq
  · rintro ⟨j, e1, e2, e3⟩; exact ⟨j, e1, by omega, e3⟩
  · rintro ⟨j, e1, e2, q, e3, e4, e5⟩
    by_cases e : j = i
    · subst e
      rw [hf] at e3; cases e3
      exact absurd (le_trans17 hp h.pos P.1 h1 (h.none_ (h2 e5))) (lt_le17.1 e4)
    · exact ⟨j, e1, by omega, q, e3, e4, e5⟩
theorem Kept17.best {f : Nat → Option Q17} {g b : Q17} {n : Nat} {xs : List Int} (P : Pos17 f g) (h : Kept17 f g n b xs) : IsBest17 n f g xs := by
  refine ⟨h.rise, fun x => (h.mem x).trans ⟨?_, ?_⟩⟩
  · rintro ⟨j, e1, e2, p, e3, e4, e5⟩
    exact ⟨j, e1, e2, p, e3, e4, fun k q hk hq => le_trans17 (P.2 k q hq) h.pos (P.2 j p e3) (h.most k q hk hq) e5⟩
  · rintro ⟨j, e1, e2, p, e3, e4, e5⟩
    refine ⟨j, e1, e2, p, e3, e4, ?_⟩
    by_cases hx : xs = []
    · exact le_trans17 h.pos P.1 (P.2 j p e3) (h.none_ hx) (lt_le_of17 e4)
    · obtain ⟨x0, hm⟩ := List.exists_mem_of_ne_nil xs hx
      obtain ⟨k, _, k2, q, k3, _, k5⟩ := (h.mem x0).1 hm
      exact le_trans17 h.pos (P.2 k q k3) (P.2 j p e3) k5 (e5 k q k2 k3)

/-- Of a list that begins elsewhere, and goes round, the best ones are the same, at their places there. -/
theorem turned17 {n k : Nat} {f f' : Nat → Option Q17} {g : Q17} {xs ys : List Int} (hk : k ≤ n) (hf : ∀ i, i < n → f' i = f ((i + k) % n)) (h : IsBest17 n f g xs) (h' : IsBest17 n f' g ys) :
    xs.length = ys.length ∧ (∀ y ∈ ys, 0 ≤ y ∧ y < n) ∧ (∀ x ∈ xs, 0 ≤ x ∧ x < n) ∧ ∀ x ∈ xs, ∃ y ∈ ys, (y + k) % n = x := by
  have by_ : ∀ y ∈ ys, 0 ≤ y ∧ y < n := fun y hy => by obtain ⟨j, e1, e2, _⟩ := (h'.mem y).1 hy; omega
  have bx_ : ∀ x ∈ xs, 0 ≤ x ∧ x < n := fun y hy => by obtain ⟨j, e1, e2, _⟩ := (h.mem y).1 hy; omega
  have fw : ∀ j, j < n → (j + k) % n < n := fun j hj => Nat.mod_lt _ (by omega)
  have back : ∀ j, j < n → ∃ i, i < n ∧ (i + k) % n = j := fun j hj => by
    by_cases c : k ≤ j
    · exact ⟨j - k, by omega, by rw [show j - k + k = j by omega]; exact Nat.mod_eq_of_lt hj⟩
    · refine ⟨j + n - k, by omega, ?_⟩
      rw [show j + n - k + k = j + n by omega, Nat.add_mod_right]
      exact Nat.mod_eq_of_lt hj
  have two : ∀ j : Nat, j < n → (j + k = (j + k) % n ∨ j + k = (j + k) % n + n) := fun j hj => by
    by_cases c : j + k < n
    · exact .inl (Nat.mod_eq_of_lt c).symm
    · refine .inr ?_
      rw [Nat.mod_eq_sub_mod (by omega), Nat.mod_eq_of_lt (by omega)]
      omega
  have most : ∀ p : Q17, (∀ i q, i < n → f' i = some q → le17 q p) ↔ ∀ i q, i < n → f i = some q → le17 q p := fun p => by
    constructor
    · intro e i q hi hq
      obtain ⟨j, hj, hji⟩ := back i hi
      exact e j q hj (by rw [hf j hj, hji]; exact hq)
    · intro e i q hi hq
      exact e _ q (fw i hi) (by rw [← hf i hi]; exact hq)
  have key : ∀ x : Int, x ∈ xs ↔ x ∈ ys.map fun y : Int => (y + (k : Int)) % (n : Int) := fun x => by
    rw [h.mem x, List.mem_map]
    constructor
    · rintro ⟨j, e1, e2, p, e3, e4, e5⟩
      obtain ⟨i, hi, hij⟩ := back j e2
      refine ⟨(i : Int), (h'.mem _).2 ⟨i, rfl, hi, p, by rw [hf i hi, hij]; exact e3, e4, (most p).2 e5⟩, ?_⟩
      rw [e1, ← hij]
      push_cast
      rfl
    · rintro ⟨y, hy, e⟩
      obtain ⟨i, e1, e2, p, e3, e4, e5⟩ := (h'.mem y).1 hy
      refine ⟨(i + k) % n, ?_, fw i e2, p, by rw [← hf i e2]; exact e3, e4, (most p).1 e5⟩
      rw [← e, e1]
      push_cast
      rfl
  have nx : xs.Nodup := h.rise.imp fun {a b} h => by intro e; omega
  have ny : (ys.map fun y : Int => (y + (k : Int)) % (n : Int)).Nodup := by
    have r : ys.Pairwise (fun a b : Int => a < b ∧ (0 ≤ a ∧ a < (n : Int)) ∧ 0 ≤ b ∧ b < (n : Int)) := h'.rise.imp_of_mem fun ha hb q => ⟨q, by_ _ ha, by_ _ hb⟩
    refine List.pairwise_map.2 (r.imp fun {a b} q => ?_)
    obtain ⟨q1, q2, q3⟩ := q
    intro e
    obtain ⟨u, hu⟩ : ∃ u : Nat, a = u := ⟨a.toNat, by omega⟩
    obtain ⟨v, hv⟩ : ∃ v : Nat, b = v := ⟨b.toNat, by omega⟩
    subst hu hv
    have e' : (u + k) % n = (v + k) % n := by exact_mod_cast e
    have t1 := two u (by omega)
    have t2 := two v (by omega)
    have t3 := fw u (by omega)
    have t4 := fw v (by omega)
    omega
  have hp := (List.perm_ext_iff_of_nodup nx ny).2 key
  refine ⟨by rw [hp.length_eq, List.length_map], by_, bx_, fun x hx => ?_⟩
  obtain ⟨y, hy, e⟩ := List.mem_map.1 ((key x).1 hx)
  exact ⟨y, hy, e⟩
end Go.Proofs.Ytchmlfjjgehbkaa

namespace Go.Proofs.Ytchmlfjjgehbkaa
open Go.RowKit

theorem sq_size17 {G : Int} (h1 : -1099511627776 ≤ G) (h2 : G ≤ 1099511627776) : 0 ≤ G * G ∧ G * G ≤ 1208925819614629174706176 := by
  by_cases c : 0 ≤ G
  · have h3 := Int.mul_nonneg c c
    have h4 : G * G ≤ 1099511627776 * 1099511627776 := Int.mul_le_mul h2 h2 c (by omega)
    omega
  · have h3 := Int.mul_nonneg (show 0 ≤ -G by omega) (show 0 ≤ -G by omega)
    have h4 : -G * -G ≤ 1099511627776 * 1099511627776 := Int.mul_le_mul (by omega) (by omega) (by omega) (by omega)
    rw [Int.neg_mul_neg] at h3 h4
    omega
theorem term_size17 {x y z : Int} (hx : 0 ≤ x ∧ x ≤ 1208925819614629174706176) (hy : 0 < y ∧ y ≤ 2097152) (hz : 0 < z ∧ z ≤ 2097152) : 0 ≤ x * y * z ∧ x * y * z ≤ 5316911983139663491615228241121378304 := by
  have h1 : 0 ≤ x * y := Int.mul_nonneg hx.1 (by omega)
  have h2 : x * y ≤ 1208925819614629174706176 * 2097152 := Int.mul_le_mul hx.2 hy.2 (by omega) (by omega)
  have h3 : 0 ≤ x * y * z := Int.mul_nonneg h1 (by omega)
  have h4 : x * y * z ≤ (1208925819614629174706176 * 2097152) * 2097152 := Int.mul_le_mul h2 hz.2 (by omega) (by omega)
  omega
theorem big17 {x : Nat} (h : x ≤ 15950735949418990474845684723364134912) : x < 18446744073709551616 ^ 16 := Nat.lt_of_le_of_lt h (by decide)
/-- What a score is: it may be told. -/
theorem score_fits17 {l G H : Int} (h : ScoreArg l G H) : (scoreQ l G H).1.natAbs < 18446744073709551616 ^ 16 ∧ (scoreQ l G H).2 < 18446744073709551616 ^ 16 := by
  have h1 := sq_size17 h.2.1 h.2.2.1
  have h2 := scoreQ_pos h
  refine ⟨big17 ?_, big17 (by omega)⟩
  show (G * G).natAbs ≤ _
  omega
theorem makF_score17 {l G H : Int} (h : ScoreArg l G H) : makF (scoreQ l G H).1 (scoreQ l G H).2 = none := makF_small17 (scoreQ_pos h).1 (score_fits17 h).1 (score_fits17 h).2
theorem makF_same17 {T X : Int} {D Y : Nat} (hD : 0 < D) (h1 : numF T D = numF X Y) (h2 : denF T D = denF X Y) (hx : X.natAbs < 18446744073709551616 ^ 16) (hy : Y < 18446744073709551616 ^ 16) : makF T D = none :=
  makF_some hD (by rw [h1]; exact Nat.lt_of_le_of_lt (numF_le17 X Y) hx) (by rw [h2]; exact Nat.lt_of_le_of_lt (denF_le17 X Y) hy)
/-- Left's score and right's, together. -/
def bothQ (l G H A B : Int) : Q17 := (G * G * (((B - H) + l).toNat : Int) + (A - G) * (A - G) * ((H + l).toNat : Int), (H + l).toNat * ((B - H) + l).toNat)
theorem gain_args17 {l G H A B : Int} (h : GainArg l G H A B) : ScoreArg l G H ∧ ScoreArg l (A - G) (B - H) ∧ ScoreArg l A B := ⟨⟨h.1, h.2.1⟩, ⟨h.1, h.2.2.2⟩, ⟨h.1, h.2.2.1⟩⟩
theorem bothQ_fits17 {l G H A B : Int} (h : GainArg l G H A B) : 0 < (bothQ l G H A B).2 ∧ (bothQ l G H A B).1.natAbs < 18446744073709551616 ^ 16 ∧ (bothQ l G H A B).2 < 18446744073709551616 ^ 16 := by
  obtain ⟨h1, h2, h3, h4, h5, h6⟩ := gain_dens h
  have e1 : ((H + l).toNat : Int) = H + l := by omega
  have e2 : ((B - H + l).toNat : Int) = B - H + l := by omega
  have t1 := term_size17 (y := B - H + l) (z := 1) (sq_size17 h.2.1.1 h.2.1.2.1) ⟨h3, h4⟩ ⟨by omega, by omega⟩
  have t2 := term_size17 (y := H + l) (z := 1) (sq_size17 h.2.2.2.1 h.2.2.2.2.1) ⟨h1, h2⟩ ⟨by omega, by omega⟩
  have k1 : 0 < (H + l).toNat * (B - H + l).toNat := Nat.mul_pos (by omega) (by omega)
  have k2 : (H + l).toNat * (B - H + l).toNat ≤ 2097152 * 2097152 := Nat.mul_le_mul (by omega) (by omega)
  unfold bothQ
  simp only
  rw [e1, e2]
  refine ⟨k1, big17 ?_, big17 (by omega)⟩
  omega
theorem gainQ_eq17 {l G H A B : Int} (h : GainArg l G H A B) : gainQ l G H A B = ((bothQ l G H A B).1 * ((B + l).toNat : Int) - A * A * ((bothQ l G H A B).2 : Int), (bothQ l G H A B).2 * (B + l).toNat) := by
  obtain ⟨h1, h2, h3, h4, h5, h6⟩ := gain_dens h
  have e1 : ((H + l).toNat : Int) = H + l := by omega
  have e2 : ((B - H + l).toNat : Int) = B - H + l := by omega
  have e3 : ((B + l).toNat : Int) = B + l := by omega
  have k := (gainQ_den h).2.1
  refine Prod.ext ?_ ?_
  · unfold gainQ bothQ
    simp only
    push_cast
    rw [e1, e2, e3]
    grind
  · have : ((gainQ l G H A B).2 : Int) = (((bothQ l G H A B).2 * (B + l).toNat : Nat) : Int) := by
      rw [k]
      unfold bothQ
      simp only
      push_cast
      rw [e1, e2, e3]
    exact Int.ofNat_inj.1 this
theorem gainQ_fits17 {l G H A B : Int} (h : GainArg l G H A B) : 0 < (gainQ l G H A B).2 ∧ (gainQ l G H A B).1.natAbs < 18446744073709551616 ^ 16 ∧ (gainQ l G H A B).2 < 18446744073709551616 ^ 16 := by
  obtain ⟨h1, h2, h3, h4, h5, h6⟩ := gain_dens h
  have t1 := term_size17 (sq_size17 h.2.1.1 h.2.1.2.1) ⟨h3, h4⟩ ⟨h5, h6⟩
  have t2 := term_size17 (sq_size17 h.2.2.2.1 h.2.2.2.2.1) ⟨h1, h2⟩ ⟨h5, h6⟩
  have t3 := term_size17 (sq_size17 h.2.2.1.1 h.2.2.1.2.1) ⟨h1, h2⟩ ⟨h3, h4⟩
  have k := gainQ_den h
  refine ⟨k.1, big17 ?_, big17 (by omega)⟩
  unfold gainQ
  simp only
  omega
theorem makF_gain17 {l G H A B : Int} (h : GainArg l G H A B) : makF (gainQ l G H A B).1 (gainQ l G H A B).2 = none := makF_small17 (gainQ_fits17 h).1 (gainQ_fits17 h).2.1 (gainQ_fits17 h).2.2
/-- The sum of left's and right's score, in lowest terms; that less all's. -/
theorem add_scores17 {l G H A B : Int} (h : GainArg l G H A B) :
    numF (numF (scoreQ l G H).1 (scoreQ l G H).2 * (denF (scoreQ l (A - G) (B - H)).1 (scoreQ l (A - G) (B - H)).2 : Int) + numF (scoreQ l (A - G) (B - H)).1 (scoreQ l (A - G) (B - H)).2 * (denF (scoreQ l G H).1 (scoreQ l G H).2 : Int)) (denF (scoreQ l G H).1 (scoreQ l G H).2 * denF (scoreQ l (A - G) (B - H)).1 (scoreQ l (A - G) (B - H)).2) = numF (bothQ l G H A B).1 (bothQ l G H A B).2 ∧
    denF (numF (scoreQ l G H).1 (scoreQ l G H).2 * (denF (scoreQ l (A - G) (B - H)).1 (scoreQ l (A - G) (B - H)).2 : Int) + numF (scoreQ l (A - G) (B - H)).1 (scoreQ l (A - G) (B - H)).2 * (denF (scoreQ l G H).1 (scoreQ l G H).2 : Int)) (denF (scoreQ l G H).1 (scoreQ l G H).2 * denF (scoreQ l (A - G) (B - H)).1 (scoreQ l (A - G) (B - H)).2) = denF (bothQ l G H A B).1 (bothQ l G H A B).2 := by
  obtain ⟨h1, h2, h3⟩ := gain_args17 h
  exact low_add17 (scoreQ_pos h1).1 (scoreQ_pos h2).1
theorem sub_scores17 {l G H A B : Int} (h : GainArg l G H A B) :
    numF (numF (bothQ l G H A B).1 (bothQ l G H A B).2 * (denF (scoreQ l A B).1 (scoreQ l A B).2 : Int) - numF (scoreQ l A B).1 (scoreQ l A B).2 * (denF (bothQ l G H A B).1 (bothQ l G H A B).2 : Int)) (denF (bothQ l G H A B).1 (bothQ l G H A B).2 * denF (scoreQ l A B).1 (scoreQ l A B).2) = numF (gainQ l G H A B).1 (gainQ l G H A B).2 ∧
    denF (numF (bothQ l G H A B).1 (bothQ l G H A B).2 * (denF (scoreQ l A B).1 (scoreQ l A B).2 : Int) - numF (scoreQ l A B).1 (scoreQ l A B).2 * (denF (bothQ l G H A B).1 (bothQ l G H A B).2 : Int)) (denF (bothQ l G H A B).1 (bothQ l G H A B).2 * denF (scoreQ l A B).1 (scoreQ l A B).2) = denF (gainQ l G H A B).1 (gainQ l G H A B).2 := by
  obtain ⟨h1, h2, h3⟩ := gain_args17 h
  rw [gainQ_eq17 h]
  exact low_sub17 (bothQ_fits17 h).1 (scoreQ_pos h3).1
end Go.Proofs.Ytchmlfjjgehbkaa

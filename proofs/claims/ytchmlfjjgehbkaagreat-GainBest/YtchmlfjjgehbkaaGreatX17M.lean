/-
  What a split is worth to the program: mathematics. Written by mk/x17.py.
-/
import Derived.Test.YtchmlfjjgehbkaaGreatR17F
import Derived.Test.YtchmlfjjgehbkaaGreatR8P
namespace Go.Proofs.YtchmlfjjgehbkaaGreat
open Go.RowKit

def addQ17 (p q : Q17) : Q17 := (p.1 * (q.2 : Int) + q.1 * (p.2 : Int), p.2 * q.2)
def subQ17 (p q : Q17) : Q17 := (p.1 * (q.2 : Int) - q.1 * (p.2 : Int), p.2 * q.2)
theorem bothQ_add17 (l G H A B : Int) : bothQ l G H A B = addQ17 (scoreQ l G H) (scoreQ l (A - G) (B - H)) := rfl
theorem gainQ_sub17 {l G H A B : Int} (h : GainArg l G H A B) : gainQ l G H A B = subQ17 (bothQ l G H A B) (scoreQ l A B) := gainQ_eq17 h
/-- What both sides of a split must be worth more than. -/
def enoughQ (l γ A B : Int) : Q17 := addQ17 (scoreQ l A B) (γ, 1)
theorem score_fit17 {l G H : Int} (h : ScoreArg l G H) : Fit17 (scoreQ l G H) := ⟨(scoreQ_pos h).1, score_fits17 h⟩
theorem gam_fit17 {γ : Int} (h : 0 ≤ γ ∧ γ ≤ 1048576) : Fit17 (γ, 1) := ⟨Nat.one_pos, Nat.lt_of_le_of_lt (show γ.natAbs ≤ 1048576 by omega) (by decide), (show (1 : Nat) < 18446744073709551616 ^ 16 by decide)⟩
theorem enough_fit17 {l γ A B : Int} (h : ScoreArg l A B) (hg : 0 ≤ γ ∧ γ ≤ 1048576) : Fit17 (enoughQ l γ A B) := by
  have h1 := sq_size17 h.2.1 h.2.2.1
  have h2 := scoreQ_pos h
  have h3 : 0 ≤ γ * ((B + l).toNat : Int) := Int.mul_nonneg hg.1 (by omega)
  have h4 : γ * ((B + l).toNat : Int) ≤ 1048576 * 2097152 := Int.mul_le_mul hg.2 (by have := h2.2.1; have := h2.2.2; omega) (by omega) (by omega)
  refine ⟨Nat.mul_pos h2.1 Nat.one_pos, big17 ?_, big17 ?_⟩
  · show (A * A * ((1 : Nat) : Int) + γ * ((B + l).toNat : Int)).natAbs ≤ _
    omega
  · show (B + l).toNat * 1 ≤ _
    have := h2.2.2
    omega
theorem lt_gain17 {l γ G H A B : Int} (h : GainArg l G H A B) : lt17 (γ, 1) (gainQ l G H A B) ↔ lt17 (enoughQ l γ A B) (bothQ l G H A B) := by
  rw [gainQ_eq17 h]
  unfold lt17 enoughQ addQ17 scoreQ
  simp only
  obtain ⟨X, hX⟩ : ∃ X, X = (bothQ l G H A B).1 := ⟨_, rfl⟩
  obtain ⟨Y, hY⟩ : ∃ Y, Y = (bothQ l G H A B).2 := ⟨_, rfl⟩
  obtain ⟨D, hD⟩ : ∃ D, D = (B + l).toNat := ⟨_, rfl⟩
  rw [← hX, ← hY, ← hD]
  have e1 : γ * ((Y * D : Nat) : Int) = γ * (D : Int) * (Y : Int) := by push_cast; rw [Int.mul_comm (Y : Int), Int.mul_assoc]
  have e2 : (A * A * ((1 : Nat) : Int) + γ * (D : Int)) * (Y : Int) = A * A * (Y : Int) + γ * (D : Int) * (Y : Int) := by rw [Int.add_mul]; simp
  have e3 : X * ((D * 1 : Nat) : Int) = X * (D : Int) := by simp
  rw [e1, e2, e3]
  omega
theorem le_gain17 {l G H G' H' A B : Int} (h : GainArg l G H A B) (h' : GainArg l G' H' A B) : le17 (gainQ l G H A B) (gainQ l G' H' A B) ↔ le17 (bothQ l G H A B) (bothQ l G' H' A B) := by
  have hd := (scoreQ_pos (gain_args17 h).2.2).1
  rw [gainQ_eq17 h, gainQ_eq17 h']
  have hd' : 0 < (B + l).toNat := hd
  unfold le17
  simp only
  obtain ⟨X, hX⟩ : ∃ X, X = (bothQ l G H A B).1 := ⟨_, rfl⟩
  obtain ⟨Y, hY⟩ : ∃ Y, Y = (bothQ l G H A B).2 := ⟨_, rfl⟩
  obtain ⟨X', hX'⟩ : ∃ X, X = (bothQ l G' H' A B).1 := ⟨_, rfl⟩
  obtain ⟨Y', hY'⟩ : ∃ Y, Y = (bothQ l G' H' A B).2 := ⟨_, rfl⟩
  obtain ⟨D, hD⟩ : ∃ D, D = (B + l).toNat := ⟨_, rfl⟩
  rw [← hX, ← hY, ← hX', ← hY', ← hD]
  rw [← hD] at hd'
  obtain ⟨S, hS⟩ : ∃ S, S = A * A := ⟨_, rfl⟩
  rw [← hS]
  have e1 : (X * (D : Int) - S * (Y : Int)) * ((Y' * D : Nat) : Int) = X * (Y' : Int) * ((D : Int) * (D : Int)) - S * (Y : Int) * (Y' : Int) * (D : Int) := by push_cast; grind
  have e2 : (X' * (D : Int) - S * (Y' : Int)) * ((Y * D : Nat) : Int) = X' * (Y : Int) * ((D : Int) * (D : Int)) - S * (Y : Int) * (Y' : Int) * (D : Int) := by push_cast; grind
  rw [e1, e2]
  have hDD : 0 < (D : Int) * (D : Int) := Int.mul_pos (by omega) (by omega)
  constructor
  · intro q
    exact Int.le_of_mul_le_mul_right (by omega) hDD
  · intro q
    have := Int.mul_le_mul_of_nonneg_right q (Int.le_of_lt hDD)
    omega
/-- What both sides of each split are worth, where it is asked for. -/
def fBoth17 (l A B : Int) (ss : List (Int × Int)) (k : Nat) : Option Q17 := if 1 ≤ (ss.getD k (0, 0)).2 ∧ 1 ≤ B - (ss.getD k (0, 0)).2 then some (bothQ l (ss.getD k (0, 0)).1 (ss.getD k (0, 0)).2 A B) else none
theorem fBoth_some17 {l A B : Int} {ss : List (Int × Int)} {k : Nat} {p : Q17} (h : fBoth17 l A B ss k = some p) : p = bothQ l (ss.getD k (0, 0)).1 (ss.getD k (0, 0)).2 A B ∧ fBest17 l A B ss k = some (gainQ l (ss.getD k (0, 0)).1 (ss.getD k (0, 0)).2 A B) := by
  unfold fBoth17 at h
  unfold fBest17
  by_cases c : 1 ≤ (ss.getD k (0, 0)).2 ∧ 1 ≤ B - (ss.getD k (0, 0)).2
  · rw [if_pos c] at h ⊢
    cases h
    exact ⟨rfl, rfl⟩
  · rw [if_neg c] at h
    cases h
theorem fBest_some17 {l A B : Int} {ss : List (Int × Int)} {k : Nat} {p : Q17} (h : fBest17 l A B ss k = some p) : p = gainQ l (ss.getD k (0, 0)).1 (ss.getD k (0, 0)).2 A B ∧ fBoth17 l A B ss k = some (bothQ l (ss.getD k (0, 0)).1 (ss.getD k (0, 0)).2 A B) := by
  unfold fBest17 at h
  unfold fBoth17
  by_cases c : 1 ≤ (ss.getD k (0, 0)).2 ∧ 1 ≤ B - (ss.getD k (0, 0)).2
  · rw [if_pos c] at h ⊢
    cases h
    exact ⟨rfl, rfl⟩
  · rw [if_neg c] at h
    cases h
theorem BestArg.pos2 {l γ A B : Int} {ss : List (Int × Int)} (h : BestArg l γ A B ss) : Pos17 (fBoth17 l A B ss) (enoughQ l γ A B) := by
  refine ⟨(enough_fit17 ⟨h.lam, h.all⟩ h.gam).1, fun k p e => ?_⟩
  by_cases hk : k < ss.length
  · rw [(fBoth_some17 e).1]
    exact (bothQ_fits17 (h.gain hk)).1
  · unfold fBoth17 at e
    have e2 : ss.getD k (0, 0) = (0, 0) := by simp [List.getD, List.getElem?_eq_none (Nat.not_lt.1 hk)]
    rw [e2, if_neg (fun q => by have := q.1; simp at this)] at e
    cases e
/-- The best of what both sides are worth are the best gains. -/
theorem best_same17 {l γ A B : Int} {ss : List (Int × Int)} {xs : List Int} (h : BestArg l γ A B ss) (hb : IsBest17 ss.length (fBoth17 l A B ss) (enoughQ l γ A B) xs) : IsBest17 ss.length (fBest17 l A B ss) (γ, 1) xs := by
  refine ⟨hb.rise, fun x => (hb.mem x).trans ⟨?_, ?_⟩⟩
  · rintro ⟨j, e1, e2, p, e3, e4, e5⟩
    obtain ⟨rfl, k3⟩ := fBoth_some17 e3
    refine ⟨j, e1, e2, _, k3, (lt_gain17 (h.gain e2)).2 e4, fun k q hk hq => ?_⟩
    obtain ⟨rfl, m3⟩ := fBest_some17 hq
    exact (le_gain17 (h.gain hk) (h.gain e2)).2 (e5 k _ hk m3)
  · rintro ⟨j, e1, e2, p, e3, e4, e5⟩
    obtain ⟨rfl, k3⟩ := fBest_some17 e3
    refine ⟨j, e1, e2, _, k3, (lt_gain17 (h.gain e2)).1 e4, fun k q hk hq => ?_⟩
    obtain ⟨rfl, m3⟩ := fBoth_some17 hq
    exact (le_gain17 (h.gain hk) (h.gain e2)).1 (e5 k _ hk m3)
/-- A call that tells a fraction. -/
def Fr17T (q : Q17) (w : World) (e : Ending) (w' : World) : Prop := ∃ m p k n p' k' n', e = .returned (.agg #[.bool m, .slice p k n, .slice p' k' n']) ∧ FrAt17 w' m p k n p' k' n' q ∧ Below w.heap.size w w'
def Fe17T (q : Q17) (w : World) (e : Ending) (w' : World) : Prop := ∃ m p k n p' k' n', e = .returned (.tuple #[.agg #[.bool m, .slice p k n, .slice p' k' n'], .int .i64 0]) ∧ FrAt17 w' m p k n p' k' n' q ∧ Below w.heap.size w w'
theorem FrAt17.drew17 {w : World} {m : Bool} {p : Option Addr} {l c : Nat} {p' : Option Addr} {l' c' : Nat} {q : Q17} (h : FrAt17 w m p l c p' l' c' q) : FrAt17 w.drew m p l c p' l' c' q := by
  obtain ⟨us, vs, h1, h2, h3⟩ := h
  exact ⟨us, vs, h1.drawD, h2.drawD, h3⟩
theorem FrAt17.grow17 {w : World} {m : Bool} {p : Option Addr} {l c : Nat} {p' : Option Addr} {l' c' : Nat} {q : Q17} (h : FrAt17 w m p l c p' l' c' q) (o : Obj) : FrAt17 (w.alloc o) m p l c p' l' c' q := h.below (balloc _ _)
/-- The cells of a variable that holds a whole number, and that may be stored to. -/
structure ICell17 (w : World) (g : Nat) (p : Bool) (a : Option Addr) (l c : Nat) : Prop where
  c0 : w.cell? ⟨g, 0, none⟩ = some (.bool p)
  c1 : w.cell? ⟨g, 1, none⟩ = some (.slice a l c)
  f0 : w.frozen? ⟨g, 0, none⟩ = false
  f1 : w.frozen? ⟨g, 1, none⟩ = false
theorem ICell17.lt {w : World} {g : Nat} {p : Bool} {a : Option Addr} {l c : Nat} (h : ICell17 w g p a l c) : g < w.heap.size := World.block_lt_of_cell? _ _ h.c0
theorem ICell17.below {w w' : World} {g : Nat} {p : Bool} {a : Option Addr} {l c : Nat} (h : ICell17 w g p a l c) (hb : Below w.heap.size w w') : ICell17 w' g p a l c :=
  ⟨bkeep hb h.c0 rfl, bkeep hb h.c1 rfl, ((bcell hb).2 _ _ h.lt).trans h.f0, ((bcell hb).2 _ _ h.lt).trans h.f1⟩
theorem ICell17.new (w : World) (p : Bool) (a : Option Addr) (l c : Nat) : ICell17 (w.alloc (.cells #[.bool p, .slice a l c] 28)) w.heap.size p a l c := ⟨by simp, by simp, by simp, by simp⟩
theorem ICell17.drew17 {w : World} {g : Nat} {p : Bool} {a : Option Addr} {l c : Nat} (h : ICell17 w g p a l c) : ICell17 w.drew g p a l c := ⟨h.c0, h.c1, h.f0, h.f1⟩
theorem ICell17.put {w : World} {g : Nat} {p : Bool} {a : Option Addr} {l c : Nat} (h : ICell17 w g p a l c) (q : Bool) (b : Option Addr) (k n : Nat) : ICell17 ((w.setCell ⟨g, 0, none⟩ (.bool q)).setCell ⟨g, 1, none⟩ (.slice b k n)) g q b k n := by
  obtain ⟨h0, h1, f0, f1⟩ := h
  refine ⟨?_, ?_, by simp [f0], by simp [f1]⟩
  · rw [World.cell?_setCell_other]
    · exact World.cell?_setCell_same _ _ _ h0
    · simp
  · exact World.cell?_setCell_same _ _ _ (by rw [World.cell?_setCell_other]; exact h1; simp)
/-- A fraction that was stored into a variable of its own. -/
theorem fin17 {W w : World} {g : Nat} {x : Bool} {a b : Option Addr} {k1 n1 k2 n2 : Nat} (hg : Cell3 w g x a k1 n1 b k2 n2) (hb : Below W.heap.size W w) (hw : W.heap.size ≤ g) {m : Bool} {p : Option Addr} {l c : Nat} {p' : Option Addr} {l' c' : Nat} {q : Q17} (h : FrAt17 w m p l c p' l' c' q) :
    Cell3 (((w.setCell ⟨g, 0, none⟩ (.bool m)).setCell ⟨g, 1, none⟩ (.slice p l c)).setCell ⟨g, 2, none⟩ (.slice p' l' c')) g m p l c p' l' c' ∧ FrAt17 (((w.setCell ⟨g, 0, none⟩ (.bool m)).setCell ⟨g, 1, none⟩ (.slice p l c)).setCell ⟨g, 2, none⟩ (.slice p' l' c')) m p l c p' l' c' q ∧ W.heap.size ≤ g ∧ Below W.heap.size W (((w.setCell ⟨g, 0, none⟩ (.bool m)).setCell ⟨g, 1, none⟩ (.slice p l c)).setCell ⟨g, 2, none⟩ (.slice p' l' c')) :=
  ⟨hg.put m p p' l c l' c', FrAt17.put17 h hg, hw, put3_below hb hw _ _ _⟩
end Go.Proofs.YtchmlfjjgehbkaaGreat

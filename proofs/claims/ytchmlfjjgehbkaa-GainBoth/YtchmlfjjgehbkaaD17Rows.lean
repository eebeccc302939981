/-
  Rows of sums in memory; what the best splits are, by definition.
-/
import Derived.Test.YtchmlfjjgehbkaaD17A
import Derived.Test.YtchmlfjjgehbkaaW12B
namespace Go.Proofs.Ytchmlfjjgehbkaa
open Go.RowKit

/-- The slice (a, l, c) of sums lies in memory. -/
structure SRows (w : World) (a : Option Addr) (l c : Nat) (ss : List (Int × Int)) : Prop where
  hlen : ss.length = l
  hcap : l ≤ c
  hmax : c ≤ maxLen
  cells : 0 < l → ∃ b off, a = some ⟨b, off, none⟩ ∧ ∀ i, i < l → w.cell? ⟨b, off + i * 2, none⟩ = some (.int .i64 (ss.getD i (0, 0)).1) ∧ w.cell? ⟨b, off + i * 2 + 1, none⟩ = some (.int .i64 (ss.getD i (0, 0)).2)
  word : ∀ s, s ∈ ss → (-9223372036854775808 ≤ s.1 ∧ s.1 < 9223372036854775808) ∧ (-9223372036854775808 ≤ s.2 ∧ s.2 < 9223372036854775808)
theorem SRows.below {w w' : World} {a : Option Addr} {l c : Nat} {ss : List (Int × Int)} (h : SRows w a l c ss) (hb : Below w.heap.size w w') : SRows w' a l c ss :=
  ⟨h.hlen, h.hcap, h.hmax, fun hp => by
    obtain ⟨b, off, e, hc⟩ := h.cells hp
    exact ⟨b, off, e, fun i hi => ⟨(hb.cell (World.block_lt_of_cell? w _ (hc i hi).1)).trans (hc i hi).1, (hb.cell (World.block_lt_of_cell? w _ (hc i hi).2)).trans (hc i hi).2⟩⟩, h.word⟩
theorem SRows.nil (w : World) : SRows w none 0 0 [] := ⟨rfl, Nat.le_refl _, Nat.zero_le _, fun h => absurd h (Nat.lt_irrefl _), fun s hs => by cases hs⟩
theorem SRows.at {w : World} {a : Option Addr} {l c : Nat} {ss : List (Int × Int)} (h : SRows w a l c ss) {i : Nat} (hi : i < l) : ∃ b off G H, a = some ⟨b, off, none⟩ ∧ w.cell? ⟨b, off + i * 2, none⟩ = some (.int .i64 G) ∧ w.cell? ⟨b, off + i * 2 + 1, none⟩ = some (.int .i64 H) ∧ ss.getD i (0, 0) = (G, H) := by
  obtain ⟨b, off, e, hc⟩ := h.cells (by omega)
  obtain ⟨h1, h2⟩ := hc i hi
  exact ⟨b, off, _, _, e, h1, h2, rfl⟩
/-- What each split adds, where it may be told. -/
def fBest17 (l A B : Int) (ss : List (Int × Int)) (k : Nat) : Option Q17 := if 1 ≤ (ss.getD k (0, 0)).2 ∧ 1 ≤ B - (ss.getD k (0, 0)).2 then some (gainQ l (ss.getD k (0, 0)).1 (ss.getD k (0, 0)).2 A B) else none
structure BestArg (l γ A B : Int) (ss : List (Int × Int)) : Prop where
  lam : LamOk l
  gam : 0 ≤ γ ∧ γ ≤ 1048576
  all : SumOk A B
  few : ss.length ≤ 16384
  each : ∀ i, i < ss.length → SumOk (ss.getD i (0, 0)).1 (ss.getD i (0, 0)).2 ∧ SumOk (A - (ss.getD i (0, 0)).1) (B - (ss.getD i (0, 0)).2)
theorem BestArg.gain {l γ A B : Int} {ss : List (Int × Int)} (h : BestArg l γ A B ss) {i : Nat} (hi : i < ss.length) : GainArg l (ss.getD i (0, 0)).1 (ss.getD i (0, 0)).2 A B := ⟨h.lam, (h.each i hi).1, h.all, (h.each i hi).2⟩
theorem BestArg.pos {l γ A B : Int} {ss : List (Int × Int)} (h : BestArg l γ A B ss) : Pos17 (fBest17 l A B ss) (γ, 1) := by
  refine ⟨Nat.one_pos, fun k p e => ?_⟩
  unfold fBest17 at e
  by_cases hk : k < ss.length
  · by_cases c : 1 ≤ (ss.getD k (0, 0)).2 ∧ 1 ≤ B - (ss.getD k (0, 0)).2
    · rw [if_pos c] at e
      cases e
      exact (gainQ_den (h.gain hk)).1
    · rw [if_neg c] at e
      cases e
  · have e2 : ss.getD k (0, 0) = (0, 0) := by simp [List.getD, List.getElem?_eq_none (Nat.not_lt.1 hk)]
    rw [e2, if_neg (fun q => by have := q.1; simp at this)] at e
    cases e
def ResBest17 (l γ A B : Int) (ss : List (Int × Int)) (e : Int) (xs : List Int) : Prop := (¬ BestArg l γ A B ss ∧ e = 1 ∧ xs = []) ∨ (BestArg l γ A B ss ∧ e = 0 ∧ IsBest17 ss.length (fBest17 l A B ss) (γ, 1) xs)
theorem ResBest17.unique {l γ A B : Int} {ss : List (Int × Int)} {e f : Int} {xs ys : List Int} (h : ResBest17 l γ A B ss e xs) (k : ResBest17 l γ A B ss f ys) : e = f ∧ xs = ys := by
  rcases h with ⟨h1, h2, h3⟩ | ⟨h1, h2, h3⟩ <;> rcases k with ⟨k1, k2, k3⟩ | ⟨k1, k2, k3⟩
  · exact ⟨h2.trans k2.symm, h3.trans k3.symm⟩
  · exact absurd k1 h1
  · exact absurd h1 k1
  · exact ⟨h2.trans k2.symm, h3.unique k3⟩
/-- What Best makes. -/
def BesT17 (l γ A B : Int) (ss : List (Int × Int)) (w : World) (e : Ending) (w' : World) : Prop := ∃ a n c xs err, e = .returned (.tuple #[.slice a n c, .int .i64 err]) ∧ Lsts w' a n c xs ∧ ResBest17 l γ A B ss err xs ∧ Below w.heap.size w w'
end Go.Proofs.Ytchmlfjjgehbkaa

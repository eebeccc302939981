/-
  The document's best splits: Best, its first statements. Written by mk/r17e.py.
  The document's best splits: Best, more statements. Written by mk/r17e.py.
  The document's best splits: Best, the second loop. Written by mk/r17e.py.
  The document's best splits: Best. Written by mk/r17e.py.
  Stage 17's laws: what they ask of the program's functions. Written by mk/p17.py.
  Stage 17's laws: awake. Written by mk/p17.py.
-/
import Derived.Test.YtchmlfjjgehbkaaR17A
import Derived.Test.YtchmlfjjgehbkaaD17Rows
import Derived.Deep.RegionHeld3
import Derived.BigQuiet
namespace Go.Proofs.Ytchmlfjjgehbkaa
open Go.RowKit

theorem SCell17.drew17 {w : World} {g : Nat} {x y : Int} (h : SCell17 w g x y) : SCell17 w.drew g x y := ⟨h.c0, h.c1, h.f0, h.f1⟩
theorem bst17 {V w : World} {p : Addr} (h : Below V.heap.size V w) (hp : V.heap.size ≤ p.block) (v : Value) : Below V.heap.size V (w.setCell p v) := h.setCell hp v
end Go.Proofs.Ytchmlfjjgehbkaa

namespace Go.Proofs.Ytchmlfjjgehbkaa
open Go.RowKit

attribute [local go_sem] run_mag17
theorem IOwn.low17 {w w' : World} {base : Nat} {v : Value} {xs : List Int} (h : IOwn w base v xs) (hg : w.grownBy w' v.ownBlock) (hb : base ≤ w.heap.size) : Below base w w' :=
  ⟨hg.os, hg.tape, hg.output, hg.size, fun k hk => hg.block k (Nat.lt_of_lt_of_le hk hb) (fun e => by have := (World.ownsRow.lt h k e.symm).1; omega)⟩
/-- A fraction that is far from the limit. -/
def Fit17 (q : Q17) : Prop := 0 < q.2 ∧ q.1.natAbs < 18446744073709551616 ^ 16 ∧ q.2 < 18446744073709551616 ^ 16
theorem Cell3.drew17 {w : World} {g : Nat} {p : Bool} {a b : Option Addr} {l c l' c' : Nat} (h : Cell3 w g p a l c b l' c') : Cell3 w.drew g p a l c b l' c' := ⟨h.c0, h.c1, h.c2, h.f0, h.f1, h.f2⟩
theorem FrAt17.put17 {w : World} {m : Bool} {p : Option Addr} {l c : Nat} {p' : Option Addr} {l' c' : Nat} {q : Q17} (h : FrAt17 w m p l c p' l' c' q) {g : Nat} {x : Bool} {a b : Option Addr} {k1 n1 k2 n2 : Nat} (hg : Cell3 w g x a k1 n1 b k2 n2) {u v z : Value} : FrAt17 (((w.setCell ⟨g, 0, none⟩ u).setCell ⟨g, 1, none⟩ v).setCell ⟨g, 2, none⟩ z) m p l c p' l' c' q := by
  obtain ⟨us, vs, h1, h2, h3⟩ := h
  exact ⟨us, vs, Nums.put3 hg h1 _ _ _, Nums.put3 hg h2 _ _ _, h3⟩
end Go.Proofs.Ytchmlfjjgehbkaa

namespace Go.Proofs.Ytchmlfjjgehbkaa
open Go.RowKit

theorem Kept17.word17 {f : Nat → Option Q17} {g b : Q17} {i : Nat} {xs : List Int} (h : Kept17 f g i b xs) (hi : i < 9223372036854775808) : ∀ x, x ∈ xs → -9223372036854775808 ≤ x ∧ x < 9223372036854775808 := fun x hx => by
  obtain ⟨j, rfl, h1, -⟩ := (h.mem x).1 hx
  omega
theorem Nums.lt17 {w : World} {a : Option Addr} {l c : Nat} {zs : List Int} (h : Nums w a l c zs) : ∀ ad, a = some ad → 0 < l → ad.block < w.heap.size := fun ad e hl => by
  obtain ⟨b, off, e2, hc⟩ := h.cells hl
  rw [e] at e2
  cases e2
  exact World.block_lt_of_cell? w _ (hc 0 hl)
theorem Nums.below17 {w w' : World} {a : Option Addr} {l c K : Nat} {zs : List Int} (h : Nums w a l c zs) (hb : Below K w w') (hk : ∀ ad, a = some ad → 0 < l → ad.block < K) : Nums w' a l c zs := ⟨h.hlen, h.hcap, h.hmax, fun hp => by
  obtain ⟨b, off, e, hc⟩ := h.cells hp
  exact ⟨b, off, e, fun i hi => (hb.cell (p := ⟨b, off + i, none⟩) (hk ⟨b, off, none⟩ e hp)).trans (hc i hi)⟩, h.digs⟩
/-- Best, under way: the most so far in a variable of its own, and where it was. -/
structure BkAt (X : World) (s K : Nat) (q : Q17) (m : Bool) (p : Option Addr) (k n0 : Nat) (p' : Option Addr) (k' n0' : Nat) (v : Value) (xs : List Int) (W : World) : Prop where
  cell : Cell3 W s m p k n0 p' k' n0'
  fr : FrAt17 W m p k n0 p' k' n0' q
  low : (∀ ad, p = some ad → 0 < k → ad.block < K) ∧ (∀ ad, p' = some ad → 0 < k' → ad.block < K)
  own : IOwn W K v xs
  base : X.heap.size ≤ K ∧ K ≤ W.heap.size
  only : Only (fun b => b = s) X W
  old : s < X.heap.size
theorem BkAt.grow {X : World} {s K : Nat} {q : Q17} {m : Bool} {p : Option Addr} {k n0 : Nat} {p' : Option Addr} {k' n0' : Nat} {v : Value} {xs : List Int} {W W' : World} (h : BkAt X s K q m p k n0 p' k' n0' v xs W) (hb : Below W.heap.size W W') : BkAt X s K q m p k n0 p' k' n0' v xs W' :=
  ⟨h.cell.below hb, h.fr.below hb, h.low, World.ownsRow.kept h.own (grown_of_below hb none) (by cases e : v.ownBlock with | none => exact .inl rfl | some _ => exact .inr (by simp)), ⟨h.base.1, Nat.le_trans h.base.2 hb.size⟩, h.only.trans (Only.of_below (T := fun _ => False) hb) (fun _ e => e.elim), h.old⟩
/-- A new most. -/
theorem BkAt.put {X : World} {s K : Nat} {q q2 : Q17} {m : Bool} {p : Option Addr} {k n0 : Nat} {p' : Option Addr} {k' n0' : Nat} {v : Value} {xs : List Int} {W : World} (h : BkAt X s K q m p k n0 p' k' n0' v xs W) {m1 : Bool} {a1 : Option Addr} {k1 n1 : Nat} {b1 : Option Addr} {k2 n2 : Nat} (hf : FrAt17 W m1 a1 k1 n1 b1 k2 n2 q2) : BkAt X s W.heap.size q2 m1 a1 k1 n1 b1 k2 n2 (.slice none 0 0) [] (((W.setCell ⟨s, 0, none⟩ (.bool m1)).setCell ⟨s, 1, none⟩ (.slice a1 k1 n1)).setCell ⟨s, 2, none⟩ (.slice b1 k2 n2)) := by
  have hlow : (∀ ad, a1 = some ad → 0 < k1 → ad.block < W.heap.size) ∧ (∀ ad, b1 = some ad → 0 < k2 → ad.block < W.heap.size) := by
    obtain ⟨us, vs, u1, u2, -⟩ := hf
    exact ⟨u1.lt17, u2.lt17⟩
  have o : ∀ (W : World) j x, Only (fun b => b = s) W (W.setCell ⟨s, j, none⟩ x) := fun W j x => Only.of_grown (grown_set W s j x) (fun b e => by cases e; rfl)
  exact ⟨h.cell.put m1 a1 b1 k1 n1 k2 n2, FrAt17.put17 hf h.cell, hlow, IOwn.nil _ _, ⟨Nat.le_trans h.base.1 h.base.2, by simp⟩, ((h.only.trans (o _ _ _) (fun b e => .inl e)).trans (o _ _ _) (fun b e => .inl e)).trans (o _ _ _) (fun b e => .inl e), h.old⟩
/-- One place more. -/
theorem BkAt.app {X : World} {s K : Nat} {q : Q17} {m : Bool} {p : Option Addr} {k n0 : Nat} {p' : Option Addr} {k' n0' : Nat} {v v' : Value} {xs xs' : List Int} {W W' : World} (h : BkAt X s K q m p k n0 p' k' n0' v xs W) (hO : IOwn W' K v' xs') (hb : Below K W W') : BkAt X s K q m p k n0 p' k' n0' v' xs' W' := by
  have hs : s < K := Nat.lt_of_lt_of_le h.old h.base.1
  have hc : ∀ j, W'.cell? ⟨s, j, none⟩ = W.cell? ⟨s, j, none⟩ := fun j => World.cell?_of_block (hb.block s hs)
  have hf : ∀ j, W'.frozen? ⟨s, j, none⟩ = W.frozen? ⟨s, j, none⟩ := fun j => by simp only [World.frozen?, hb.block s hs]
  obtain ⟨us, vs, u1, u2, u3⟩ := h.fr
  exact ⟨⟨(hc 0).trans h.cell.c0, (hc 1).trans h.cell.c1, (hc 2).trans h.cell.c2, (hf 0).trans h.cell.f0, (hf 1).trans h.cell.f1, (hf 2).trans h.cell.f2⟩, ⟨us, vs, u1.below17 hb h.low.1, u2.below17 hb h.low.2, u3⟩, h.low, hO, ⟨h.base.1, Nat.le_trans h.base.2 hb.size⟩, h.only.trans (show Only (fun b => K ≤ b) W W' from ⟨hb.os, hb.tape, hb.output, hb.size, fun j _ hn => hb.block j (Nat.lt_of_not_le hn)⟩) (fun b e => .inr (Nat.le_trans h.base.1 e)), h.old⟩
end Go.Proofs.Ytchmlfjjgehbkaa

namespace Go.Proofs.Ytchmlfjjgehbkaa
open Go.RowKit

end Go.Proofs.Ytchmlfjjgehbkaa

namespace Go.Proofs.Ytchmlfjjgehbkaa
open Go.RowKit

def ScoOk17 : Prop := ∀ (l G H : Int) (w : World), (-9223372036854775808 ≤ l ∧ l < 9223372036854775808) → (-9223372036854775808 ≤ G ∧ G < 9223372036854775808) → (-9223372036854775808 ≤ H ∧ H < 9223372036854775808) → Calls Try.prog 7 #[.int .i64 l, .agg #[.int .i64 (G), .int .i64 (H)]] w fun e w' => FT17 (ScoreArg l G H) (scoreQ l G H) w e w'
def GaiOk17 : Prop := ∀ (l G H A B : Int) (w : World), (-9223372036854775808 ≤ l ∧ l < 9223372036854775808) → (-9223372036854775808 ≤ G ∧ G < 9223372036854775808) → (-9223372036854775808 ≤ H ∧ H < 9223372036854775808) → (-9223372036854775808 ≤ A ∧ A < 9223372036854775808) → (-9223372036854775808 ≤ B ∧ B < 9223372036854775808) → Calls Try.prog 10 #[.int .i64 l, .agg #[.int .i64 (G), .int .i64 (H)], .agg #[.int .i64 (A), .int .i64 (B)]] w fun e w' => FT17 (GainArg l G H A B) (gainQ l G H A B) w e w'
def BesOk17 : Prop := ∀ (l γ A B : Int) (a : Option Addr) (n c : Nat) (ss : List (Int × Int)) (w : World), (-9223372036854775808 ≤ l ∧ l < 9223372036854775808) → (-9223372036854775808 ≤ γ ∧ γ < 9223372036854775808) → (-9223372036854775808 ≤ A ∧ A < 9223372036854775808) → (-9223372036854775808 ≤ B ∧ B < 9223372036854775808) → SRows w a n c ss → Calls Try.prog 11 #[.int .i64 l, .int .i64 γ, .agg #[.int .i64 (A), .int .i64 (B)], .slice a n c] w fun e w' => BesT17 l γ A B ss w e w'
/-- What is told of a fraction, in one. -/
def FU17 (P : Prop) (q : Q17) (m : Bool) (us vs : List Int) (err : Int) : Prop := (P ∧ err = 0 ∧ IsW m us (numF q.1 q.2) ∧ IsN vs (denF q.1 q.2)) ∨ (¬ P ∧ err = 1 ∧ m = false ∧ us = [] ∧ vs = [])
theorem FU17.unique {P : Prop} {q : Q17} {m m' : Bool} {us vs us' vs' : List Int} {err err' : Int} (h : FU17 P q m us vs err) (k : FU17 P q m' us' vs' err') : m = m' ∧ us = us' ∧ vs = vs' ∧ err = err' := by
  rcases h with ⟨h0, h1, h2, h3⟩ | ⟨h0, h1, h2, h3, h4⟩ <;> rcases k with ⟨k0, k1, k2, k3⟩ | ⟨k0, k1, k2, k3, k4⟩
  · obtain ⟨e1, e2, e3, -⟩ := (ToldF.good (f := none) rfl h2 h3).unique (ToldF.good rfl k2 k3)
    exact ⟨e1, e2, e3, h1.trans k1.symm⟩
  · exact absurd h0 k0
  · exact absurd k0 h0
  · exact ⟨h2.trans k2.symm, h3.trans k3.symm, h4.trans k4.symm, h1.trans k1.symm⟩
theorem FT17.told {P : Prop} {q : Q17} {w : World} {e : Ending} {w' : World} (h : FT17 P q w e w') : ∃ m p k n p' k' n' us vs err, e = .returned (.tuple #[.agg #[.bool m, .slice p k n, .slice p' k' n'], .int .i64 err]) ∧ Nums w' p k n us ∧ Nums w' p' k' n' vs ∧ FU17 P q m us vs err ∧ Below w.heap.size w w' := by
  by_cases hP : P
  · obtain ⟨m, p, l, c, p', l', c', us, vs, err, he, ⟨h1, h2⟩, ht, hb⟩ := h.1 hP
    rcases ht with ⟨e1, e2, -, -⟩ | ⟨-, ⟨h3, h4⟩, rfl⟩
    · cases e2
    · exact ⟨m, p, l, c, p', l', c', us, vs, 0, he, h1, h2, .inl ⟨hP, rfl, h3, h4⟩, hb⟩
  · obtain ⟨m, p, l, c, p', l', c', us, vs, err, he, ⟨h1, h2⟩, ht, hb⟩ := h.2 hP
    rcases ht with ⟨e1, e2, ⟨rfl, rfl, rfl⟩, rfl⟩ | ⟨e1, -, -⟩
    · cases e2
      exact ⟨_, p, l, c, p', l', c', [], [], _, he, h1, h2, .inr ⟨hP, rfl, rfl, rfl, rfl⟩, hb⟩
    · cases e1
theorem FrAt17.of17 {P : Prop} {q : Q17} {m : Bool} {us vs : List Int} {err : Int} (h : FU17 P q m us vs err) (e0 : err = 0) : P ∧ IsW m us (numF q.1 q.2) ∧ IsN vs (denF q.1 q.2) := by
  rcases h with ⟨h0, -, h2, h3⟩ | ⟨-, h1, -⟩
  · exact ⟨h0, h2, h3⟩
  · omega
end Go.Proofs.Ytchmlfjjgehbkaa

namespace Go.Proofs.Ytchmlfjjgehbkaa
open Go.RowKit

theorem eight17 : numF (scoreQ 1 4 1).1 (scoreQ 1 4 1).2 = 8 := (show numF 16 2 = 8 ∧ denF 16 2 = 1 from low_of (by decide) (by decide) (by decide) (by decide)).1
theorem told8_17 {m : Bool} {us vs : List Int} {err : Int} (h : FU17 (ScoreArg 1 4 1) (scoreQ 1 4 1) m us vs err) : err = 0 ∧ us = [8] := by
  have hP : ScoreArg 1 4 1 := ⟨⟨by decide, by decide⟩, ⟨by decide, by decide, by decide, by decide⟩⟩
  rcases h with ⟨-, h1, h2, -⟩ | ⟨h0, -⟩
  · rw [eight17] at h2
    exact ⟨h1, (h2.unique (IsW.of (x := 8) (by decide))).2⟩
  · exact absurd hP h0
set_option maxRecDepth 20000 in
set_option maxHeartbeats 12800000 in
theorem awake17_any (OS : ScoOk17) (w : World) : Calls Try.prog 6 #[] w fun e w' => e = .returned (.bool true) ∧ Below w.heap.size w w' := by
  have H1 := (show Hid _ from OS 1 4 1 w (by decide) (by decide) (by decide))
  go_enter Try.func6, Try.ntmps6
  go_wp2_with fail
  refine Calls.mono H1.out ?_
  rintro e w1 hh
  obtain ⟨m1, p1, k1, n1, p1', k1', n1', us, vs, err, rfl, u1, -, hU, hb⟩ := hh.told
  obtain ⟨rfl, rfl⟩ := told8_17 hU
  have hk : k1 = 1 := by have := u1.hlen; simpa using this.symm
  subst hk
  obtain ⟨b, off, rfl, hc⟩ := u1.cells (by omega)
  have x8 : w1.cell? ⟨b, off, none⟩ = some (.int .u64 8) := by have := hc 0 (by omega); simpa using this
  have hba := balloc w1 (.cells #[.bool m1, .slice (some ⟨b, off, none⟩) 1 n1, .slice p1' k1' n1'] 30)
  have y8 := bkeep hba x8 rfl
  have HB : Hid (Below w.heap.size w (w1.alloc (.cells #[.bool m1, .slice (some ⟨b, off, none⟩) 1 n1, .slice p1' k1' n1'] 30))) := bthen hb hba
  have h01 : (0 : Int) < ((1 : Nat) : Int) := by decide
  clear H1 hh hU u1 hc hb hba x8
  go_wp2_with fail
  go_ret
  exact ⟨rfl, HB.out⟩
end Go.Proofs.Ytchmlfjjgehbkaa

/-
  The best splits are kept by a closure. Written by mk/x17.py.
-/
import Derived.Test.YtchmlfjjgehbkaaX17D
namespace Go.Proofs.Ytchmlfjjgehbkaa
open Go.RowKit

theorem IOwn.lit17 (w : World) (x : Int) : IOwn (w.alloc (.cells #[.int .i64 x] 3)) w.heap.size (.slice (some ⟨w.heap.size, 0, none⟩) 1 1) [x] :=
  World.ownsRow_lit w #[.int .i64 x] 1 (Nat.le_refl _) (by unfold maxLen; omega) rfl
theorem IOwn.shape17 {w : World} {K : Nat} {v : Value} {xs : List Int} (h : IOwn w K v xs) : ∃ a c, v = .slice a xs.length c := by
  rcases h.2 with ⟨rfl, e⟩ | ⟨g, cap, cur, rfl, -⟩
  · exact ⟨none, 0, by rw [e]⟩
  · exact ⟨_, _, rfl⟩
theorem IOwn.noword17 {w : World} {K : Nat} {v : Value} {xs : List Int} (h : IOwn w K v xs) (z : Int) : v ≠ .int .u64 z := by
  obtain ⟨a, c, rfl⟩ := h.shape17
  intro e
  cases e
/-- Best, under way: the most so far, and where it was, each in a variable of its own. -/
structure KpAt (X : World) (s u K : Nat) (q : Q17) (m : Bool) (p : Option Addr) (k n0 : Nat) (p' : Option Addr) (k' n0' : Nat) (v : Value) (xs : List Int) (W : World) : Prop where
  cell : Cell3 W s m p k n0 p' k' n0'
  fr : FrAt17 W m p k n0 p' k' n0' q
  low : (∀ ad, p = some ad → 0 < k → ad.block < K) ∧ (∀ ad, p' = some ad → 0 < k' → ad.block < K)
  slot : W.cell? ⟨u, 0, none⟩ = some v
  free : W.frozen? ⟨u, 0, none⟩ = false
  own : IOwn W K v xs
  base : X.heap.size ≤ K ∧ K ≤ W.heap.size
  only : Only (fun b => b = s ∨ b = u) X W
  old : s < X.heap.size ∧ u < X.heap.size ∧ s ≠ u
theorem KpAt.grow {X : World} {s u K : Nat} {q : Q17} {m : Bool} {p : Option Addr} {k n0 : Nat} {p' : Option Addr} {k' n0' : Nat} {v : Value} {xs : List Int} {W W' : World} (h : KpAt X s u K q m p k n0 p' k' n0' v xs W) (hb : Below W.heap.size W W') : KpAt X s u K q m p k n0 p' k' n0' v xs W' :=
  ⟨h.cell.below hb, h.fr.below hb, h.low, bkeep hb h.slot rfl, ((bcell hb).2 _ _ (World.block_lt_of_cell? _ _ h.slot)).trans h.free, World.ownsRow.kept h.own (grown_of_below hb none) (by cases e : v.ownBlock with | none => exact .inl rfl | some _ => exact .inr (by simp)), ⟨h.base.1, Nat.le_trans h.base.2 hb.size⟩, h.only.trans (Only.of_below (T := fun _ => False) hb) (fun _ e => e.elim), h.old⟩
/-- A new most, at one place. -/
theorem KpAt.more {X : World} {s u K : Nat} {q q2 : Q17} {m : Bool} {p : Option Addr} {k n0 : Nat} {p' : Option Addr} {k' n0' : Nat} {v : Value} {xs : List Int} {W : World} (h : KpAt X s u K q m p k n0 p' k' n0' v xs W) {m1 : Bool} {a1 : Option Addr} {k1 n1 : Nat} {b1 : Option Addr} {k2 n2 : Nat} (hf : FrAt17 W m1 a1 k1 n1 b1 k2 n2 q2) (i : Int) : KpAt X s u W.heap.size q2 m1 a1 k1 n1 b1 k2 n2 (.slice (some ⟨W.heap.size, 0, none⟩) 1 1) [i] (((((W.alloc (.cells #[.int .i64 i] 3)).setCell ⟨s, 0, none⟩ (.bool m1)).setCell ⟨s, 1, none⟩ (.slice a1 k1 n1)).setCell ⟨s, 2, none⟩ (.slice b1 k2 n2)).setCell ⟨u, 0, none⟩ (.slice (some ⟨W.heap.size, 0, none⟩) 1 1)) := by
  have hlow : (∀ ad, a1 = some ad → 0 < k1 → ad.block < W.heap.size) ∧ (∀ ad, b1 = some ad → 0 < k2 → ad.block < W.heap.size) := by
    obtain ⟨us, vs, u1, u2, -⟩ := hf
    exact ⟨u1.lt17, u2.lt17⟩
  have hba := balloc W (.cells #[.int .i64 i] 3)
  have o : ∀ (W : World) b j x, (b = s ∨ b = u) → Only (fun b => b = s ∨ b = u) W (W.setCell ⟨b, j, none⟩ x) := fun W b j x hb => Only.of_grown (grown_set W b j x) (fun c e => by cases e; exact hb)
  have g0 := h.cell.below hba
  have hsl := bkeep hba h.slot rfl
  have hfr := ((bcell hba).2 _ _ (World.block_lt_of_cell? _ _ h.slot)).trans h.free
  have g1 := g0.put m1 a1 b1 k1 n1 k2 n2
  have hl := IOwn.lit17 W i
  obtain ⟨W4, hW4⟩ : ∃ W4, W4 = (((W.alloc (.cells #[.int .i64 i] 3)).setCell ⟨s, 0, none⟩ (.bool m1)).setCell ⟨s, 1, none⟩ (.slice a1 k1 n1)).setCell ⟨s, 2, none⟩ (.slice b1 k2 n2) := ⟨_, rfl⟩
  have hsl4 : W4.cell? ⟨u, 0, none⟩ = some v := by rw [hW4]; exact (put3_other (Ne.symm h.old.2.2) _ _ _).trans hsl
  have hfr4 : W4.frozen? ⟨u, 0, none⟩ = false := by rw [hW4]; simpa using hfr
  have hf4 : FrAt17 W4 m1 a1 k1 n1 b1 k2 n2 q2 := by rw [hW4]; exact FrAt17.put17 (hf.below hba) g0
  have ho4 : Only (fun b => b = s ∨ b = u) X W4 := by
    rw [hW4]
    exact (((h.only.trans (Only.of_below (T := fun _ => False) hba) (fun _ e => e.elim)).trans (o _ s _ _ (.inl rfl)) (fun b e => .inl e)).trans (o _ s _ _ (.inl rfl)) (fun b e => .inl e)).trans (o _ s _ _ (.inl rfl)) (fun b e => .inl e)
  have hs4 : W4.heap.size = W.heap.size + 1 := by rw [hW4]; simp
  have hK : W.heap.size ≠ s ∧ W.heap.size ≠ u := ⟨fun e => by have := h.cell.lt; omega, fun e => by have := World.block_lt_of_cell? _ _ h.slot; simp at this; omega⟩
  have hown4 : IOwn W4 W.heap.size (.slice (some ⟨W.heap.size, 0, none⟩) 1 1) [i] := by
    rw [hW4]
    refine World.ownsRow.kept (World.ownsRow.kept (World.ownsRow.kept hl (grown_set _ s 0 _) (.inr ?_)) (grown_set _ s 1 _) (.inr ?_)) (grown_set _ s 2 _) (.inr ?_) <;> (intro e; cases e; exact hK.1 rfl)
  rw [← hW4] at g1 ⊢
  have hc : ∀ j, (W4.setCell ⟨u, 0, none⟩ (.slice (some ⟨W.heap.size, 0, none⟩) 1 1)).cell? ⟨s, j, none⟩ = W4.cell? ⟨s, j, none⟩ := fun j => World.cell?_setCell_other _ _ _ _ (by intro e; cases e; exact h.old.2.2 rfl)
  obtain ⟨us, vs, u1, u2, u3⟩ := hf4
  exact ⟨⟨(hc 0).trans g1.c0, (hc 1).trans g1.c1, (hc 2).trans g1.c2, by simpa using g1.f0, by simpa using g1.f1, by simpa using g1.f2⟩, ⟨us, vs, u1.put hsl4 (h.own.noword17) _, u2.put hsl4 (h.own.noword17) _, u3⟩, hlow, World.cell?_setCell_same _ _ _ hsl4, by simpa using hfr4,
    World.ownsRow.kept hown4 (grown_set _ u 0 _) (.inr (by intro e; cases e; exact hK.2 rfl)), ⟨Nat.le_trans h.base.1 h.base.2, by simp [hs4]⟩, ho4.trans (o _ u _ _ (.inr rfl)) (fun b e => .inl e), h.old⟩
/-- One place more. -/
theorem KpAt.app {X : World} {s u K : Nat} {q : Q17} {m : Bool} {p : Option Addr} {k n0 : Nat} {p' : Option Addr} {k' n0' : Nat} {v v' : Value} {xs xs' : List Int} {W W' : World} (h : KpAt X s u K q m p k n0 p' k' n0' v xs W) (hO : IOwn W' K v' xs') (hb : Below K W W') : KpAt X s u K q m p k n0 p' k' n0' v' xs' (W'.setCell ⟨u, 0, none⟩ v') := by
  have hs : s < K := Nat.lt_of_lt_of_le h.old.1 h.base.1
  have hu : u < K := Nat.lt_of_lt_of_le h.old.2.1 h.base.1
  have hc : ∀ b j, b < K → W'.cell? ⟨b, j, none⟩ = W.cell? ⟨b, j, none⟩ := fun b j hb' => World.cell?_of_block (hb.block b hb')
  have hf : ∀ b j, b < K → W'.frozen? ⟨b, j, none⟩ = W.frozen? ⟨b, j, none⟩ := fun b j hb' => by simp only [World.frozen?, hb.block b hb']
  have hsl : W'.cell? ⟨u, 0, none⟩ = some v := (hc u 0 hu).trans h.slot
  have hc2 : ∀ j, (W'.setCell ⟨u, 0, none⟩ v').cell? ⟨s, j, none⟩ = W'.cell? ⟨s, j, none⟩ := fun j => World.cell?_setCell_other _ _ _ _ (by intro e; cases e; exact h.old.2.2 rfl)
  obtain ⟨us, vs, u1, u2, u3⟩ := h.fr
  have o : Only (fun b => b = s ∨ b = u) W' (W'.setCell ⟨u, 0, none⟩ v') := Only.of_grown (grown_set W' u 0 v') (fun c e => by cases e; exact .inr rfl)
  have oW : Only (fun b => b = s ∨ b = u) X W' := h.only.trans (show Only (fun b => K ≤ b) W W' from ⟨hb.os, hb.tape, hb.output, hb.size, fun j _ hn => hb.block j (Nat.lt_of_not_le hn)⟩) (fun b e => .inr (Nat.le_trans h.base.1 e))
  exact ⟨⟨(hc2 0).trans ((hc s 0 hs).trans h.cell.c0), (hc2 1).trans ((hc s 1 hs).trans h.cell.c1), (hc2 2).trans ((hc s 2 hs).trans h.cell.c2), by simpa using (hf s 0 hs).trans h.cell.f0, by simpa using (hf s 1 hs).trans h.cell.f1, by simpa using (hf s 2 hs).trans h.cell.f2⟩, ⟨us, vs, (u1.below17 hb h.low.1).put hsl (h.own.noword17) _, (u2.below17 hb h.low.2).put hsl (h.own.noword17) _, u3⟩, h.low, World.cell?_setCell_same _ _ _ hsl, by simpa using (hf u 0 hu).trans h.free,
    World.ownsRow.kept hO (grown_set _ u 0 _) (by cases ev : v'.ownBlock with | none => exact .inl rfl | some b => exact .inr (by intro e; have h1 := (World.ownsRow.lt hO b ev).1; cases e; omega)), ⟨h.base.1, Nat.le_trans h.base.2 (by simpa using hb.size)⟩, oW.trans o (fun b e => .inl e), h.old⟩
set_option maxRecDepth 100000 in
set_option maxHeartbeats 12800000 in
theorem xk_p0 {x0 x2 x3 x4 x5 x6 x7 x8 x9 x10 x11 x12 x13 x14 x15 x16 x17 x18 x19 x20 x21 x22 x23 x24 x25 x26 x27 x28 x29 x30 x31 x32 x33 x34 x35 x36 : Value} {Q : Exit → Act → World → Prop} {W : World} {x y : Int} 
    (hN : Q .normal ⟨#[x0, .agg #[.int .i64 x, .int .i64 y], x2, x3, x4, x5, x6, .pointer (some ⟨W.heap.size, 0, none⟩), x8, x9, x10, x11, x12, x13, x14, x15, x16, x17, x18, x19, x20, x21, x22, x23, x24, x25, x26, x27, x28, x29, x30, x31, x32, x33, x34, x35, x36], []⟩ (W.alloc (.cells #[.int .i64 x, .int .i64 y] 23))) :
    Code.wp Try.prog ((Try.f27.body.bind (pcAt 0)).getD .skip) Q ⟨#[x0, .agg #[.int .i64 x, .int .i64 y], x2, x3, x4, x5, x6, x7, x8, x9, x10, x11, x12, x13, x14, x15, x16, x17, x18, x19, x20, x21, x22, x23, x24, x25, x26, x27, x28, x29, x30, x31, x32, x33, x34, x35, x36], []⟩ W := by
  conv => arg 2; whnf
  have HN : Hid (Q .normal ⟨#[x0, .agg #[.int .i64 x, .int .i64 y], x2, x3, x4, x5, x6, .pointer (some ⟨W.heap.size, 0, none⟩), x8, x9, x10, x11, x12, x13, x14, x15, x16, x17, x18, x19, x20, x21, x22, x23, x24, x25, x26, x27, x28, x29, x30, x31, x32, x33, x34, x35, x36], []⟩ (W.alloc (.cells #[.int .i64 x, .int .i64 y] 23))) := hN
  clear hN
  go_wp2_with fail
  exact HN.out   

set_option maxRecDepth 100000 in
set_option maxHeartbeats 12800000 in
theorem xk_p1 {x0 x1 x3 x4 x5 x6 x8 x9 x10 x11 x12 x13 x14 x15 x16 x17 x18 x19 x20 x21 x22 x23 x24 x25 x26 x27 x28 x29 x30 x31 x32 x33 x34 x35 x36 : Value} {Q : Exit → Act → World → Prop} {W : World} {g b : Nat} {x y A B : Int} (h1 : SVar W b x y) (h2 : SVar W g A B) (hB : 0 ≤ B ∧ B ≤ 1048576)
    (hN : ∀ (y9 y10 y11 y12 y13 y14 y15 : Value), (1 ≤ y ∧ 1 ≤ B - y) → Q .normal ⟨#[x0, x1, .pointer (some ⟨g, 0, none⟩), x3, x4, x5, x6, .pointer (some ⟨b, 0, none⟩), x8, y9, y10, y11, y12, y13, y14, y15, x16, x17, x18, x19, x20, x21, x22, x23, x24, x25, x26, x27, x28, x29, x30, x31, x32, x33, x34, x35, x36], []⟩ W)
    (hR : ∀ (y9 y10 y11 y12 y13 y14 y15 : Value), ¬ (1 ≤ y ∧ 1 ≤ B - y) → Q .ret ⟨#[x0, x1, .pointer (some ⟨g, 0, none⟩), x3, x4, x5, x6, .pointer (some ⟨b, 0, none⟩), x8, y9, y10, y11, y12, y13, y14, y15, x16, x17, x18, x19, x20, x21, x22, x23, x24, x25, x26, x27, x28, x29, x30, x31, x32, x33, x34, x35, x36], []⟩ W) :
    Code.wp Try.prog ((Try.f27.body.bind (pcAt 1)).getD .skip) Q ⟨#[x0, x1, .pointer (some ⟨g, 0, none⟩), x3, x4, x5, x6, .pointer (some ⟨b, 0, none⟩), x8, x9, x10, x11, x12, x13, x14, x15, x16, x17, x18, x19, x20, x21, x22, x23, x24, x25, x26, x27, x28, x29, x30, x31, x32, x33, x34, x35, x36], []⟩ W := by
  conv => arg 2; whnf
  have HN : Hid (∀ (y9 y10 y11 y12 y13 y14 y15 : Value), (1 ≤ y ∧ 1 ≤ B - y) → Q .normal ⟨#[x0, x1, .pointer (some ⟨g, 0, none⟩), x3, x4, x5, x6, .pointer (some ⟨b, 0, none⟩), x8, y9, y10, y11, y12, y13, y14, y15, x16, x17, x18, x19, x20, x21, x22, x23, x24, x25, x26, x27, x28, x29, x30, x31, x32, x33, x34, x35, x36], []⟩ W) := hN
  have HR : Hid (∀ (y9 y10 y11 y12 y13 y14 y15 : Value), ¬ (1 ≤ y ∧ 1 ≤ B - y) → Q .ret ⟨#[x0, x1, .pointer (some ⟨g, 0, none⟩), x3, x4, x5, x6, .pointer (some ⟨b, 0, none⟩), x8, y9, y10, y11, y12, y13, y14, y15, x16, x17, x18, x19, x20, x21, x22, x23, x24, x25, x26, x27, x28, x29, x30, x31, x32, x33, x34, x35, x36], []⟩ W) := hR
  clear hN hR
  obtain ⟨-, x1⟩ := h1.cell
  obtain ⟨-, y1⟩ := h2.cell
  obtain ⟨d, hd⟩ : ∃ d, d = B - 1 := ⟨_, rfl⟩
  have hs : B - 1 = d := hd.symm
  have hw2 : RowKit.wrap64 d = d := by unfold RowKit.wrap64; omega
  have HC := (show Hid _ from x17from_any y 1 d W)
  obtain ⟨q, hq⟩ : ∃ q, q = inB17 1 d y := ⟨_, rfl⟩
  have HQ : Hid (q = true ↔ 1 ≤ y ∧ 1 ≤ B - y) := by
    show _ ↔ _
    rw [hq, inB17_iff]
    omega
  rw [← hq] at HC
  clear h1 h2 hB hd hq
  go_wp2_with fail
  refine Calls.mono HC.out ?_
  rintro e w1 ⟨rfl, rfl⟩
  clear HC
  dsimp only
  cases q with
  | false =>
    have HX : Hid (¬ (1 ≤ y ∧ 1 ≤ B - y)) := fun e => absurd (HQ.out.2 e) (by decide)
    clear HN HQ
    go_wp2_with fail
    exact HR.out  _ _ _ _ _ _ _ HX.out
  | true =>
    have HX : Hid (1 ≤ y ∧ 1 ≤ B - y) := HQ.out.1 (by trivial)
    clear HR HQ
    go_wp2_with fail
    exact HN.out  _ _ _ _ _ _ _ HX.out

set_option maxRecDepth 100000 in
set_option maxHeartbeats 12800000 in
theorem xk_p2 {x0 x1 x4 x5 x6 x8 x9 x10 x11 x12 x13 x14 x15 x16 x17 x18 x19 x20 x21 x22 x23 x24 x25 x26 x27 x28 x29 x30 x31 x32 x33 x34 x35 x36 : Value} {Q : Exit → Act → World → Prop} {W : World} {g b t : Nat} {l x y A B : Int} (h1 : SVar W b x y) (h2 : SVar W g A B) (ht : W.cell? ⟨t, 0, none⟩ = some (.int .i64 l)) (hP : GainArg l x y A B)
    (hN : ∀ (m : Bool) (p : Option Addr) (k n : Nat) (p' : Option Addr) (k' n' : Nat) (s : Nat) (wx : World) (y16 y17 y18 y19 : Value), Cell3 wx s m p k n p' k' n' → FrAt17 wx m p k n p' k' n' (bothQ l x y A B) → W.heap.size ≤ s → Below W.heap.size W wx → Q .normal ⟨#[x0, x1, .pointer (some ⟨g, 0, none⟩), .pointer (some ⟨t, 0, none⟩), x4, x5, x6, .pointer (some ⟨b, 0, none⟩), .pointer (some ⟨s, 0, none⟩), x9, x10, x11, x12, x13, x14, x15, y16, y17, y18, y19, x20, x21, x22, x23, x24, x25, x26, x27, x28, x29, x30, x31, x32, x33, x34, x35, x36], []⟩ wx) :
    Code.wp Try.prog ((Try.f27.body.bind (pcAt 2)).getD .skip) Q ⟨#[x0, x1, .pointer (some ⟨g, 0, none⟩), .pointer (some ⟨t, 0, none⟩), x4, x5, x6, .pointer (some ⟨b, 0, none⟩), x8, x9, x10, x11, x12, x13, x14, x15, x16, x17, x18, x19, x20, x21, x22, x23, x24, x25, x26, x27, x28, x29, x30, x31, x32, x33, x34, x35, x36], []⟩ W := by
  conv => arg 2; whnf
  have HN : Hid (∀ (m : Bool) (p : Option Addr) (k n : Nat) (p' : Option Addr) (k' n' : Nat) (s : Nat) (wx : World) (y16 y17 y18 y19 : Value), Cell3 wx s m p k n p' k' n' → FrAt17 wx m p k n p' k' n' (bothQ l x y A B) → W.heap.size ≤ s → Below W.heap.size W wx → Q .normal ⟨#[x0, x1, .pointer (some ⟨g, 0, none⟩), .pointer (some ⟨t, 0, none⟩), x4, x5, x6, .pointer (some ⟨b, 0, none⟩), .pointer (some ⟨s, 0, none⟩), x9, x10, x11, x12, x13, x14, x15, y16, y17, y18, y19, x20, x21, x22, x23, x24, x25, x26, x27, x28, x29, x30, x31, x32, x33, x34, x35, x36], []⟩ wx) := hN
  clear hN
  obtain ⟨x0, x1⟩ := h1.cell
  obtain ⟨y0, y1⟩ := h2.cell
  have HC := (show Hid _ from x17apart_any l x y A B W hP)
  clear h1 h2 hP
  go_wp2_with fail
  refine Calls.mono HC.out ?_
  rintro e w1 ⟨m, p, k, n, p', k', n', rfl, hF, hb⟩
  have HK : Hid (Cell3 (w1.alloc (.cells #[.bool m, .slice p k n, .slice p' k' n'] 30)) w1.heap.size m p k n p' k' n' ∧ FrAt17 (w1.alloc (.cells #[.bool m, .slice p k n, .slice p' k' n'] 30)) m p k n p' k' n' (bothQ l x y A B) ∧ W.heap.size ≤ w1.heap.size ∧ Below W.heap.size W (w1.alloc (.cells #[.bool m, .slice p k n, .slice p' k' n'] 30))) := ⟨Cell3.new w1 m p p' k n k' n', hF.below (balloc _ _), hb.size, bthen hb (balloc _ _)⟩
  clear HC hF hb x0 x1 y0 y1 ht
  dsimp only
  go_wp2_with fail
  exact HN.out _ _ _ _ _ _ _ _ _ _ _ _ _ HK.out.1 HK.out.2.1 HK.out.2.2.1 HK.out.2.2.2

set_option maxRecDepth 100000 in
set_option maxHeartbeats 12800000 in
theorem xk_p3 {x0 x1 x2 x3 x5 x6 x7 x9 x10 x11 x12 x13 x14 x15 x16 x17 x18 x19 x20 x21 x22 x23 x24 x25 x26 x27 x28 x29 x30 x31 x32 x33 x34 x35 x36 : Value} {Q : Exit → Act → World → Prop} {W : World} {P Q2 : Q17} {s1 s2 : Nat} {m1 m2 : Bool} {a1 b1 a2 b2 : Option Addr} {k1 n1 k2 n2 k3 n3 k4 n4 : Nat} (h1 : Cell3 W s1 m1 a1 k1 n1 b1 k2 n2) (f1 : FrAt17 W m1 a1 k1 n1 b1 k2 n2 P) (h2 : Cell3 W s2 m2 a2 k3 n3 b2 k4 n4) (f2 : FrAt17 W m2 a2 k3 n3 b2 k4 n4 Q2) (g1 : Fit17 P) (g2 : Fit17 Q2)
    (hN : ∀ (t : Int) (wx : World) (y20 y21 : Value), t = cmpZ (P.1 * (Q2.2 : Int)) (Q2.1 * (P.2 : Int)) → Below W.heap.size W wx → Q .normal ⟨#[x0, x1, x2, x3, .pointer (some ⟨s2, 0, none⟩), x5, x6, x7, .pointer (some ⟨s1, 0, none⟩), x9, x10, x11, x12, x13, x14, x15, x16, x17, x18, x19, y20, y21, .int .i64 t, x23, x24, x25, x26, x27, x28, x29, x30, x31, x32, x33, x34, x35, x36], []⟩ wx) :
    Code.wp Try.prog ((Try.f27.body.bind (pcAt 3)).getD .skip) Q ⟨#[x0, x1, x2, x3, .pointer (some ⟨s2, 0, none⟩), x5, x6, x7, .pointer (some ⟨s1, 0, none⟩), x9, x10, x11, x12, x13, x14, x15, x16, x17, x18, x19, x20, x21, x22, x23, x24, x25, x26, x27, x28, x29, x30, x31, x32, x33, x34, x35, x36], []⟩ W := by
  conv => arg 2; whnf
  have HN : Hid (∀ (t : Int) (wx : World) (y20 y21 : Value), t = cmpZ (P.1 * (Q2.2 : Int)) (Q2.1 * (P.2 : Int)) → Below W.heap.size W wx → Q .normal ⟨#[x0, x1, x2, x3, .pointer (some ⟨s2, 0, none⟩), x5, x6, x7, .pointer (some ⟨s1, 0, none⟩), x9, x10, x11, x12, x13, x14, x15, x16, x17, x18, x19, y20, y21, .int .i64 t, x23, x24, x25, x26, x27, x28, x29, x30, x31, x32, x33, x34, x35, x36], []⟩ wx) := hN
  clear hN
  obtain ⟨x0, x1, x2, -, -, -⟩ := h1
  obtain ⟨y0, y1, y2, -, -, -⟩ := h2
  have hc := x17cmp_any g1 g2 f1 f2
  obtain ⟨t, ht⟩ : ∃ t, t = cmpZ (P.1 * (Q2.2 : Int)) (Q2.1 * (P.2 : Int)) := ⟨_, rfl⟩
  rw [← ht] at hc
  have HT : Hid (t = cmpZ (P.1 * (Q2.2 : Int)) (Q2.1 * (P.2 : Int))) := ht
  have HC := (show Hid _ from hc)
  clear f1 f2 hc ht g1 g2
  go_wp2_with fail
  refine Calls.mono HC.out ?_
  rintro e w1 ⟨rfl, hb⟩
  have HB : Hid (Below W.heap.size W w1) := hb
  clear HC hb x0 x1 x2 y0 y1 y2
  go_wp2_with fail
  exact HN.out _ _ _ _ HT.out HB.out

set_option maxRecDepth 100000 in
set_option maxHeartbeats 12800000 in
theorem xk_p4 {x1 x2 x3 x6 x7 x9 x10 x11 x12 x13 x14 x15 x16 x17 x18 x19 x20 x21 x23 x24 x25 x26 x27 x28 x29 x30 x31 x32 x33 x34 x35 x36 : Value} {Q : Exit → Act → World → Prop} {W : World} {i u K : Nat} {t : Int} {oa : Option Addr} {on oc : Nat} {xs : List Int} {s1 s2 : Nat} {m1 m2 : Bool} {a1 b1 a2 b2 : Option Addr} {k1 n1 k2 n2 k3 n3 k4 n4 : Nat} (h1 : Cell3 W s1 m1 a1 k1 n1 b1 k2 n2) (h2 : Cell3 W s2 m2 a2 k3 n3 b2 k4 n4) (hu : W.cell? ⟨u, 0, none⟩ = some (.slice oa on oc)) (fu : W.frozen? ⟨u, 0, none⟩ = false) (huK : u < K) (hus : s2 ≠ u) (hO : IOwn W K (.slice oa on oc) xs) (hn : xs.length < 1000000) (hK : K ≤ W.heap.size)
    (hN : ∀ (y23 y24 y25 y26 y27 y28 y29 y30 y31 y32 y33 y34 y35 y36 : Value), ¬ t = 1 → ¬ (t = 0 ∧ 0 < on) → Q .normal ⟨#[.int .i64 (i : Int), x1, x2, x3, .pointer (some ⟨s2, 0, none⟩), .pointer (some ⟨u, 0, none⟩), x6, x7, .pointer (some ⟨s1, 0, none⟩), x9, x10, x11, x12, x13, x14, x15, x16, x17, x18, x19, x20, x21, .int .i64 t, y23, y24, y25, y26, y27, y28, y29, y30, y31, y32, y33, y34, y35, y36], []⟩ W)
    (hM : ∀ (y23 y24 y25 y26 y27 y28 y29 y30 y31 y32 y33 y34 y35 y36 : Value), t = 1 → Q .normal ⟨#[.int .i64 (i : Int), x1, x2, x3, .pointer (some ⟨s2, 0, none⟩), .pointer (some ⟨u, 0, none⟩), x6, x7, .pointer (some ⟨s1, 0, none⟩), x9, x10, x11, x12, x13, x14, x15, x16, x17, x18, x19, x20, x21, .int .i64 t, y23, y24, y25, y26, y27, y28, y29, y30, y31, y32, y33, y34, y35, y36], []⟩ (((((W.alloc (.cells #[.int .i64 (i : Int)] 3)).setCell ⟨s2, 0, none⟩ (.bool m1)).setCell ⟨s2, 1, none⟩ (.slice a1 k1 n1)).setCell ⟨s2, 2, none⟩ (.slice b1 k2 n2)).setCell ⟨u, 0, none⟩ (.slice (some ⟨W.heap.size, 0, none⟩) 1 1)))
    (hA : ∀ (v : Value) (w5 : World) (y23 y24 y25 y26 y27 y28 y29 y30 y31 y32 y33 y34 y35 y36 : Value), (t = 0 ∧ 0 < on) → IOwn w5 K v (xs ++ [(i : Int)]) → Below K W w5 → Q .normal ⟨#[.int .i64 (i : Int), x1, x2, x3, .pointer (some ⟨s2, 0, none⟩), .pointer (some ⟨u, 0, none⟩), x6, x7, .pointer (some ⟨s1, 0, none⟩), x9, x10, x11, x12, x13, x14, x15, x16, x17, x18, x19, x20, x21, .int .i64 t, y23, y24, y25, y26, y27, y28, y29, y30, y31, y32, y33, y34, y35, y36], []⟩ (w5.setCell ⟨u, 0, none⟩ v)) :
    Code.wp Try.prog (((Try.f27.body.bind (pcBlk 0)).bind (pcFrom 4)).getD .skip) Q ⟨#[.int .i64 (i : Int), x1, x2, x3, .pointer (some ⟨s2, 0, none⟩), .pointer (some ⟨u, 0, none⟩), x6, x7, .pointer (some ⟨s1, 0, none⟩), x9, x10, x11, x12, x13, x14, x15, x16, x17, x18, x19, x20, x21, .int .i64 t, x23, x24, x25, x26, x27, x28, x29, x30, x31, x32, x33, x34, x35, x36], []⟩ W := by
  conv => arg 2; whnf
  have HN : Hid (∀ (y23 y24 y25 y26 y27 y28 y29 y30 y31 y32 y33 y34 y35 y36 : Value), ¬ t = 1 → ¬ (t = 0 ∧ 0 < on) → Q .normal ⟨#[.int .i64 (i : Int), x1, x2, x3, .pointer (some ⟨s2, 0, none⟩), .pointer (some ⟨u, 0, none⟩), x6, x7, .pointer (some ⟨s1, 0, none⟩), x9, x10, x11, x12, x13, x14, x15, x16, x17, x18, x19, x20, x21, .int .i64 t, y23, y24, y25, y26, y27, y28, y29, y30, y31, y32, y33, y34, y35, y36], []⟩ W) := hN
  have HM : Hid (∀ (y23 y24 y25 y26 y27 y28 y29 y30 y31 y32 y33 y34 y35 y36 : Value), t = 1 → Q .normal ⟨#[.int .i64 (i : Int), x1, x2, x3, .pointer (some ⟨s2, 0, none⟩), .pointer (some ⟨u, 0, none⟩), x6, x7, .pointer (some ⟨s1, 0, none⟩), x9, x10, x11, x12, x13, x14, x15, x16, x17, x18, x19, x20, x21, .int .i64 t, y23, y24, y25, y26, y27, y28, y29, y30, y31, y32, y33, y34, y35, y36], []⟩ (((((W.alloc (.cells #[.int .i64 (i : Int)] 3)).setCell ⟨s2, 0, none⟩ (.bool m1)).setCell ⟨s2, 1, none⟩ (.slice a1 k1 n1)).setCell ⟨s2, 2, none⟩ (.slice b1 k2 n2)).setCell ⟨u, 0, none⟩ (.slice (some ⟨W.heap.size, 0, none⟩) 1 1))) := hM
  have HA : Hid (∀ (v : Value) (w5 : World) (y23 y24 y25 y26 y27 y28 y29 y30 y31 y32 y33 y34 y35 y36 : Value), (t = 0 ∧ 0 < on) → IOwn w5 K v (xs ++ [(i : Int)]) → Below K W w5 → Q .normal ⟨#[.int .i64 (i : Int), x1, x2, x3, .pointer (some ⟨s2, 0, none⟩), .pointer (some ⟨u, 0, none⟩), x6, x7, .pointer (some ⟨s1, 0, none⟩), x9, x10, x11, x12, x13, x14, x15, x16, x17, x18, x19, x20, x21, .int .i64 t, y23, y24, y25, y26, y27, y28, y29, y30, y31, y32, y33, y34, y35, y36], []⟩ (w5.setCell ⟨u, 0, none⟩ v)) := hA
  clear hN hM hA
  have hlit := balloc W (.cells #[.int .i64 (i : Int)] 3)
  obtain ⟨x0, x1, x2, -, -, -⟩ := h1
  by_cases q : t = 1
  · subst q
    have HX : Hid ((1 : Int) = 1) := rfl
    obtain ⟨y0, y1, y2, f0, f1, f2⟩ := h2.below hlit
    have hu2 := bkeep hlit hu rfl
    have fu2 := ((bcell hlit).2 _ _ (World.block_lt_of_cell? _ _ hu)).trans fu
    have hu3 := (put3_other (w := W.alloc (.cells #[.int .i64 (i : Int)] 3)) (g := s2) (g' := u) (i := 0) (Ne.symm hus) (.bool m1) (.slice a1 k1 n1) (.slice b1 k2 n2)).trans hu2
    clear HN HA hO hlit h2 hn hK huK
    go_wp2_with fail
    exact HM.out  _ _ _ _ _ _ _ _ _ _ _ _ _ _ HX.out
  have dq : (t == 1) = false := by simp [q]
  by_cases q2 : t = 0
  · subst q2
    by_cases q3 : 0 < on
    · have d2 : decide ((0 : Int) < (on : Int)) = true := decide_eq_true (by omega)
      have d3 : decide (0 < on) = true := decide_eq_true q3
      have HX : Hid ((0 : Int) = 0 ∧ 0 < on) := ⟨rfl, q3⟩
      have hO2 := hO.alloc (.cells #[.int .i64 (i : Int)] 3)
      have hbs : K ≤ (W.alloc (.cells #[.int .i64 (i : Int)] 3)).heap.size := Nat.le_trans hK hlit.size
      have HAp : Hid (∀ v w5, IOwn w5 K v (xs ++ [(i : Int)]) → (W.alloc (.cells #[.int .i64 (i : Int)] 3)).grownBy w5 (Value.slice oa on oc).ownBlock → IOwn w5 K v (xs ++ [(i : Int)]) ∧ Below K W w5 ∧ w5.cell? ⟨u, 0, none⟩ = some (.slice oa on oc) ∧ w5.frozen? ⟨u, 0, none⟩ = false) := fun v w5 h g5 => by
        have hb : Below K W w5 := (hlit.mono hK).trans (IOwn.low17 hO2 g5 hbs)
        exact ⟨h, hb, (World.cell?_of_block (hb.block u huK)).trans hu, by simpa only [World.frozen?, hb.block u huK] using fu⟩
      clear HN HM q hO hlit hK x0 x1 x2 h2 huK
      go_wp2_with (at_builtin; refine wpList_appI1 _ rfl _ _ 40 rfl Try.underlying40 K _ xs rfl hO2 ⟨W.heap.size, 0, none⟩ (i : Int) rfl (by simp) hn hbs ?_)
      intro v5 w5 h5 g5
      obtain ⟨a5, c5, rfl⟩ := h5.shape17
      have hall := HAp.out _ w5 h5 g5
      have HY5 : Hid (IOwn w5 K (.slice a5 (xs ++ [(i : Int)]).length c5) (xs ++ [(i : Int)]) ∧ Below K W w5) := ⟨hall.1, hall.2.1⟩
      have z0 := hall.2.2.1
      have zf := hall.2.2.2
      obtain ⟨j5, hj5⟩ : ∃ j, j = (xs ++ [(i : Int)]).length := ⟨_, rfl⟩
      rw [← hj5] at HY5
      rw [← hj5]
      clear hall hj5
      clear hO2 h5 g5 HAp hbs hn hu fu
      go_wp2_with fail
      exact HA.out _ _ _ _ _ _ _ _ _ _ _ _ _ _ _ _ HX.out HY5.out.1 HY5.out.2
    · have d2 : decide ((0 : Int) < (on : Int)) = false := decide_eq_false (by omega)
      have d3 : decide (0 < on) = false := decide_eq_false q3
      have HX : Hid (¬ ((0 : Int) = 0 ∧ 0 < on)) := fun e => by omega
      have HY : Hid (¬ (0 : Int) = 1) := fun e => absurd e (by decide)
      clear HM HA hO hlit hK x0 x1 x2 h2 huK hn
      go_wp2_with fail
      exact HN.out  _ _ _ _ _ _ _ _ _ _ _ _ _ _ HY.out HX.out
  · have dq2 : (t == 0) = false := by simp [q2]
    have HX : Hid (¬ (t = 0 ∧ 0 < on)) := fun e => q2 e.1
    have HY : Hid (¬ t = 1) := q
    clear HM HA hO hlit hK x0 x1 x2 h2 huK hn
    go_wp2_with fail
    exact HN.out  _ _ _ _ _ _ _ _ _ _ _ _ _ _ HY.out HX.out

theorem xk_end {x0 x1 x2 x3 x4 x5 x6 x7 x8 x9 x10 x11 x12 x13 x14 x15 x16 x17 x18 x19 x20 x21 x22 x23 x24 x25 x26 x27 x28 x29 x30 x31 x32 x33 x34 x35 x36 : Value} {post : Ending → World → Prop} {W : World} (h : post (.returned (.tuple #[])) W) : bodyPost Try.prog Try.f27 post .normal ⟨#[x0, x1, x2, x3, x4, x5, x6, x7, x8, x9, x10, x11, x12, x13, x14, x15, x16, x17, x18, x19, x20, x21, x22, x23, x24, x25, x26, x27, x28, x29, x30, x31, x32, x33, x34, x35, x36], []⟩ W := by
  go_end0
  exact h
theorem xk_ret {x0 x1 x2 x3 x4 x5 x6 x7 x8 x9 x10 x11 x12 x13 x14 x15 x16 x17 x18 x19 x20 x21 x22 x23 x24 x25 x26 x27 x28 x29 x30 x31 x32 x33 x34 x35 x36 : Value} {post : Ending → World → Prop} {W : World} (h : post (.returned (.tuple #[])) W) : bodyPost Try.prog Try.f27 post .ret ⟨#[x0, x1, x2, x3, x4, x5, x6, x7, x8, x9, x10, x11, x12, x13, x14, x15, x16, x17, x18, x19, x20, x21, x22, x23, x24, x25, x26, x27, x28, x29, x30, x31, x32, x33, x34, x35, x36], []⟩ W :=
  bodyPost_ret (results_none rfl _ _ _) rfl h
/-- What the closure makes of what is kept. -/
def KeepT17 (X : World) (s u i : Nat) (f : Nat → Option Q17) (g : Q17) (e : Ending) (w' : World) : Prop := e = .returned (.tuple #[]) ∧ ∃ K q m p k n0 p' k' n0' v xs, KpAt X s u K q m p k n0 p' k' n0' v xs w' ∧ Kept17 f g (i + 1) q xs ∧ Fit17 q ∧ xs.length ≤ i + 1
set_option maxRecDepth 100000 in
set_option maxHeartbeats 12800000 in
theorem x17keep_any {X W : World} {s u K g t i : Nat} {q : Q17} {m : Bool} {p : Option Addr} {k n0 : Nat} {p' : Option Addr} {k' n0' : Nat} {v : Value} {xs : List Int} {l γ A B x y : Int} {ss : List (Int × Int)}
    (hJ : KpAt X s u K q m p k n0 p' k' n0' v xs W) (hK : Kept17 (fBoth17 l A B ss) (enoughQ l γ A B) i q xs) (hF : Fit17 q) (hxl : xs.length ≤ i) (hP : BestArg l γ A B ss) (hi : i < ss.length) (hxy : ss.getD i (0, 0) = (x, y)) (hg : SVar W g A B) (ht : W.cell? ⟨t, 0, none⟩ = some (.int .i64 l)) :
    Calls Try.prog 27 #[.int .i64 (i : Int), .agg #[.int .i64 x, .int .i64 y], .pointer (some ⟨g, 0, none⟩), .pointer (some ⟨t, 0, none⟩), .pointer (some ⟨s, 0, none⟩), .pointer (some ⟨u, 0, none⟩)] W fun e w' => KeepT17 X s u i (fBoth17 l A B ss) (enoughQ l γ A B) e w' := by
  have hA := hP.gain hi
  rw [hxy] at hA
  dsimp only at hA
  have hpos := hP.pos2
  have hfew := hP.few
  have hfi : fBoth17 l A B ss i = if 1 ≤ y ∧ 1 ≤ B - y then some (bothQ l x y A B) else none := by unfold fBoth17; rw [hxy]
  have q1 := hA.2.1
  have q2 := hA.2.2.1
  have hb0 := balloc W (.cells #[.int .i64 x, .int .i64 y] 23)
  have s0 : SVar (W.alloc (.cells #[.int .i64 x, .int .i64 y] 23)) W.heap.size x y := heap_alloc_new W _
  have hJ0 := hJ.grow hb0
  have hg0 := hg.below hb0
  have ht0 := bkeep hb0 ht rfl
  go_enter Try.func27, Try.ntmps27
  refine pcSeq (fun Q0 n0 r0 _ => xk_p0 ?_)
  intros
  refine n0 _ _ (pcSeq (fun Q1 n1 r1 _ => xk_p1 s0 hg0 ⟨q2.2.2.1, q2.2.2.2⟩ ?_ ?_))
  · intros
    rename_i hyb
    rw [if_pos hyb] at hfi
    have hq := bothQ_fits17 hA
    refine n1 _ _ (pcSeq (fun Q2 n2 r2 _ => xk_p2 s0 hg0 ht0 hA ?_))
    intro m2 a2 k2 j2 b2 k3 j3 t2 w2
    intros
    rename_i c2 f2 ht2 hb2
    have hJ2 := hJ0.grow hb2
    refine n2 _ _ (pcSeq (fun Q3 n3 r3 _ => xk_p3 c2 f2 hJ2.cell hJ2.fr hq hF ?_))
    intro tt w3
    intros
    rename_i htt hb3
    have hJ3 := hJ2.grow hb3
    obtain ⟨oa, oc, rfl⟩ := hJ3.own.shape17
    refine n3 _ _ (pcBlock (fun Q4 n4 e4 r4 => ?_))
    refine xk_p4 (c2.below hb3) hJ3.cell hJ3.slot hJ3.free (Nat.lt_of_lt_of_le hJ3.old.2.1 hJ3.base.1) hJ3.old.2.2 hJ3.own (by omega) hJ3.base.2 ?_ ?_ ?_
    · intros
      rename_i hn1 hn0
      have hle : le17 (bothQ l x y A B) q := by
        unfold le17
        rw [htt] at hn1
        unfold cmpZ at hn1
        by_cases c1 : (bothQ l x y A B).1 * (q.2 : Int) < q.1 * ((bothQ l x y A B).2 : Int)
        · omega
        · rw [if_neg c1] at hn1
          by_cases c2 : q.1 * ((bothQ l x y A B).2 : Int) < (bothQ l x y A B).1 * (q.2 : Int)
          · rw [if_pos c2] at hn1; omega
          · omega
      exact n4 _ _ (xk_end ⟨rfl, K, q, _, _, _, _, _, _, _, _, _, hJ3, hK.less hpos hfi hle (fun hge => by
        have h0 : tt = 0 := by
          rw [htt]
          unfold cmpZ
          unfold le17 at hle hge
          rw [if_neg (by omega), if_neg (by omega)]
        have h1 : ¬ 0 < xs.length := fun e => hn0 ⟨h0, e⟩
        exact List.eq_nil_of_length_eq_zero (by omega)), hF, by omega⟩)
    · intros
      rename_i ht1
      have hgt : lt17 q (bothQ l x y A B) := by
        unfold lt17
        rw [htt] at ht1
        unfold cmpZ at ht1
        by_cases c1 : (bothQ l x y A B).1 * (q.2 : Int) < q.1 * ((bothQ l x y A B).2 : Int)
        · rw [if_pos c1] at ht1; omega
        · rw [if_neg c1] at ht1
          by_cases c2 : q.1 * ((bothQ l x y A B).2 : Int) < (bothQ l x y A B).1 * (q.2 : Int)
          · exact c2
          · rw [if_neg c2] at ht1; omega
      exact n4 _ _ (xk_end ⟨rfl, _, _, _, _, _, _, _, _, _, _, _, hJ3.more (f2.below hb3) (i : Int), hK.more hpos hfi hgt, hq, by simp⟩)
    · intro v5 w5
      intros
      rename_i hyes hO5 hB5
      have hle : le17 (bothQ l x y A B) q ∧ le17 q (bothQ l x y A B) := by
        have h0 := hyes.1
        rw [htt] at h0
        unfold cmpZ at h0
        unfold le17
        by_cases c1 : (bothQ l x y A B).1 * (q.2 : Int) < q.1 * ((bothQ l x y A B).2 : Int)
        · rw [if_pos c1] at h0; omega
        · rw [if_neg c1] at h0
          by_cases c2 : q.1 * ((bothQ l x y A B).2 : Int) < (bothQ l x y A B).1 * (q.2 : Int)
          · rw [if_pos c2] at h0; omega
          · omega
      exact n4 _ _ (xk_end ⟨rfl, _, _, _, _, _, _, _, _, _, _, _, hJ3.app hO5 hB5, hK.same hpos hfi hle.1 hle.2 (fun e => by have h := hyes.2; rw [e] at h; simp at h), hF, by simp; omega⟩)
  · intros
    rename_i hno
    rw [if_neg hno] at hfi
    exact r1 _ _ (xk_ret ⟨rfl, K, q, _, _, _, _, _, _, _, _, _, hJ0, hK.skip hfi, hF, by omega⟩)
end Go.Proofs.Ytchmlfjjgehbkaa

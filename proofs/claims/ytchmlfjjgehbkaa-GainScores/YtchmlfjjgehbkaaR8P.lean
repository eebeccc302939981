/-
  The contract of modint.divisorOf.
  A whole number's sign and limbs, as a call handed them back.
  Two variables of whole numbers that a statement makes, in whatever order.
  Fractions: what they are, and what is told of them.
  Contracts of the document's Rest and Gcd.
  Contracts of the document's Right, Make and Same (rational).
  The contract of the document's Make (rational).
  Variables of whole numbers and of fractions in memory; a whole number as a call handed it back.
-/
import Derived.Test.YtchmlfjjgehbkaaEucA
import Derived.Test.YtchmlfjjgehbkaaModB
import Derived.Deep.LoopGhost
import Derived.Deep.CutRange
import Derived.Deep.RegionWith
import Derived.BigRegion
import Derived.Test.YtchmlfjjgehbkaaF7A
import Derived.Test.YtchmlfjjgehbkaaRefB
import Derived.Test.YtchmlfjjgehbkaaNatA
import Derived.Test.YtchmlfjjgehbkaaModA
import Derived.Laws.NewBlocks
namespace Go.Proofs.Ytchmlfjjgehbkaa
open Go.RowKit

theorem fromD {ns : List Int} (h : rightB ns = true) : fromL ns = ns ∧ fromN false ns = false := by
  have := right_from h false
  rw [Bool.false_and] at this
  exact this
theorem rightD {ns : List Int} (h : rightB ns = true) : rightI false ns = true := by simp [rightI, h]
theorem bfactsD {W w1 : World} (hb : Below W.heap.size W w1) : (∀ b o, b < W.heap.size → w1.cell? ⟨b, o, none⟩ = W.cell? ⟨b, o, none⟩) ∧ (∀ b o, b < W.heap.size → w1.frozen? ⟨b, o, none⟩ = W.frozen? ⟨b, o, none⟩) ∧ ∀ b, b < W.heap.size → b < w1.heap.size :=
  ⟨(bcell hb).1, (bcell hb).2, fun _ h => Nat.lt_of_lt_of_le h hb.size⟩
theorem Nums.growD {w : World} {a : Option Addr} {n c : Nat} {L : List Int} (h : Nums w a n c L) (o : Obj) : Nums (w.alloc o) a n c L := h.below ((Below.refl _ _).alloc (Nat.le_refl _) o)
theorem Nums.drawD {w : World} {a : Option Addr} {n c : Nat} {L : List Int} (h : Nums w a n c L) : Nums w.drew a n c L := h.alike (fun _ => rfl)
theorem bgrowD {V w : World} (h : Below V.heap.size V w) (o : Obj) : Below V.heap.size V (w.alloc o) := h.alloc h.size o
theorem bdrawD {V w : World} (h : Below V.heap.size V w) : Below V.heap.size V w.drew := ⟨h.os, h.tape, h.output, h.size, h.block⟩

theorem DPre.below {w w' : World} {ga gb g6 g7 : Nat} {n a G : Int} {k : Nat} (h : DPre w ga gb g6 g7 n a G k) (hb : Below w.heap.size w w') : DPre w' ga gb g6 g7 n a G k := by
  obtain ⟨xa, xn, xc, xs, ya, yn, yc, ys, s, t, E, ⟨hx, hy⟩, hr, ⟨f6, f7⟩, rest⟩ := h
  exact ⟨xa, xn, xc, xs, ya, yn, yc, ys, s, t, E.below hb, ⟨hx.below hb, hy.below hb⟩, hr, ⟨f6.below hb, f7.below hb⟩, rest⟩

/-- The result's cell. -/
def Cell5 (w : World) (g : Nat) : Prop := (w.cell? ⟨g, 0, none⟩ = some (.bool false) ∧ w.cell? ⟨g, 1, none⟩ = some (.slice none 0 0)) ∧ w.frozen? ⟨g, 0, none⟩ = false ∧ w.frozen? ⟨g, 1, none⟩ = false
theorem Cell5.below {w w' : World} {g : Nat} (h : Cell5 w g) (hb : Below w.heap.size w w') : Cell5 w' g :=
  ⟨⟨bkeep hb h.1.1 rfl, bkeep hb h.1.2 rfl⟩, (hb.frozen (p := ⟨g, 0, none⟩) (World.block_lt_of_cell? _ _ h.1.1)).trans h.2.1, (hb.frozen (p := ⟨g, 1, none⟩) (World.block_lt_of_cell? _ _ h.1.2)).trans h.2.2⟩

theorem fac_alloc {w : World} {p : Bool} {a : Option Addr} {n c : Nat} {L : List Int} {v : Int} (h : Nums w a n c L) (hr : rightI p L = true) (hv : iv p L = v) : Fac (w.alloc (.cells #[.bool p, .slice a n c] 28)) w.heap.size v :=
  ⟨p, a, n, c, L, ⟨by simp, by simp⟩, ⟨by simp, by simp⟩, h.growD _, hr, hv⟩
theorem fac_put {w : World} {g : Nat} {q p : Bool} {sa a : Option Addr} {sn sc n c : Nat} {L : List Int} {v : Int} (c0 : w.cell? ⟨g, 0, none⟩ = some (.bool q)) (c1 : w.cell? ⟨g, 1, none⟩ = some (.slice sa sn sc)) (f0 : w.frozen? ⟨g, 0, none⟩ = false) (f1 : w.frozen? ⟨g, 1, none⟩ = false) (h : Nums w a n c L) (hr : rightI p L = true) (hv : iv p L = v) :
    Fac ((w.setCell ⟨g, 0, none⟩ (.bool p)).setCell ⟨g, 1, none⟩ (.slice a n c)) g v := by
  refine ⟨p, a, n, c, L, ⟨?_, ?_⟩, ⟨by simp [f0], by simp [f1]⟩, h.put2 c0 c1 _ _, hr, hv⟩
  · rw [World.cell?_setCell_other _ _ _ _ (by intro e; cases e)]; exact World.cell?_setCell_same _ _ _ c0
  · refine World.cell?_setCell_same _ _ _ (u := .slice sa sn sc) ?_; rw [World.cell?_setCell_other _ _ _ _ (by intro e; cases e)]; exact c1

theorem put4_other {w : World} {g g' h i : Nat} (h1 : h ≠ g) (h2 : h ≠ g') (x y x' y' : Value) : ((((w.setCell ⟨g, 0, none⟩ x).setCell ⟨g, 1, none⟩ y).setCell ⟨g', 0, none⟩ x').setCell ⟨g', 1, none⟩ y').cell? ⟨h, i, none⟩ = w.cell? ⟨h, i, none⟩ :=
  (put2_other h2 _ _).trans (put2_other h1 _ _)

/-- The two factors are laid one on. -/
theorem dswap {U : World} {g6 g7 : Nat} (hne : g7 ≠ g6) {s t s' : Int} (F6 : Fac U g6 s) {tp : Bool} {ta : Option Addr} {tn tc : Nat} {tl : List Int} (d0 : U.cell? ⟨g7, 0, none⟩ = some (.bool tp)) (d1 : U.cell? ⟨g7, 1, none⟩ = some (.slice ta tn tc)) (e0 : U.frozen? ⟨g7, 0, none⟩ = false) (e1 : U.frozen? ⟨g7, 1, none⟩ = false) (hT : Nums U ta tn tc tl) (rT : rightI tp tl = true) (vT : iv tp tl = t)
    {sp : Bool} {sa : Option Addr} {sn sc : Nat} {sl : List Int} (hS : Nums U sa sn sc sl) (rS : rightI sp sl = true) (vS : iv sp sl = s') :
    (Fac ((((U.setCell ⟨g6, 0, none⟩ (.bool tp)).setCell ⟨g6, 1, none⟩ (.slice ta tn tc)).setCell ⟨g7, 0, none⟩ (.bool sp)).setCell ⟨g7, 1, none⟩ (.slice sa sn sc)) g6 t ∧ Fac ((((U.setCell ⟨g6, 0, none⟩ (.bool tp)).setCell ⟨g6, 1, none⟩ (.slice ta tn tc)).setCell ⟨g7, 0, none⟩ (.bool sp)).setCell ⟨g7, 1, none⟩ (.slice sa sn sc)) g7 s') ∧
    (∀ a n c L, Nums U a n c L → Nums ((((U.setCell ⟨g6, 0, none⟩ (.bool tp)).setCell ⟨g6, 1, none⟩ (.slice ta tn tc)).setCell ⟨g7, 0, none⟩ (.bool sp)).setCell ⟨g7, 1, none⟩ (.slice sa sn sc)) a n c L) ∧
    (∀ ga gb xa xn xc ya yn yc, ga ≠ g6 → ga ≠ g7 → gb ≠ g6 → gb ≠ g7 → EucAt U ga gb xa xn xc ya yn yc → EucAt ((((U.setCell ⟨g6, 0, none⟩ (.bool tp)).setCell ⟨g6, 1, none⟩ (.slice ta tn tc)).setCell ⟨g7, 0, none⟩ (.bool sp)).setCell ⟨g7, 1, none⟩ (.slice sa sn sc)) ga gb xa xn xc ya yn yc) ∧
    ∀ g5, g5 ≠ g6 → g5 ≠ g7 → Cell5 U g5 → Cell5 ((((U.setCell ⟨g6, 0, none⟩ (.bool tp)).setCell ⟨g6, 1, none⟩ (.slice ta tn tc)).setCell ⟨g7, 0, none⟩ (.bool sp)).setCell ⟨g7, 1, none⟩ (.slice sa sn sc)) g5 := by
  obtain ⟨p, a, n, c, L, ⟨c0, c1⟩, ⟨f0, f1⟩, hn, hr, hv⟩ := F6
  obtain ⟨⟨x0, x1⟩, y0, y1⟩ := put4_cells hne c0 c1 d0 d1 (.bool tp) (.slice ta tn tc) (.bool sp) (.slice sa sn sc)
  refine ⟨⟨⟨tp, ta, tn, tc, tl, ⟨x0, x1⟩, ⟨by simp [f0], by simp [f1]⟩, hT.put4 hne c0 c1 d0 d1 _ _ _ _, rT, vT⟩, ⟨sp, sa, sn, sc, sl, ⟨y0, y1⟩, ⟨by simp [e0], by simp [e1]⟩, hS.put4 hne c0 c1 d0 d1 _ _ _ _, rS, vS⟩⟩, ?_, ?_, ?_⟩
  · intro a n c L hn
    exact hn.put4 hne c0 c1 d0 d1 _ _ _ _
  · intro ga gb xa xn xc ya yn yc h1 h2 h3 h4 E
    exact ⟨E.ne, (put4_other h1 h2 _ _ _ _).trans E.a, (put4_other h3 h4 _ _ _ _).trans E.b, by simp [E.fa], by simp [E.fb]⟩
  · intro g5 h1 h2 hC
    exact ⟨⟨(put4_other h1 h2 _ _ _ _).trans hC.1.1, (put4_other h1 h2 _ _ _ _).trans hC.1.2⟩, by simp [hC.2.1], by simp [hC.2.2]⟩

theorem facs_made {v1 : World} {oa ob : Option Addr} {on om oc od : Nat} (h0 : Nums v1 oa on oc (ofZ (sz 0))) (h1 : Nums v1 ob om od (ofZ (sz 1))) :
    Fac ((v1.alloc (.cells #[.bool false, .slice oa on oc] 28)).alloc (.cells #[.bool false, .slice ob om od] 28)) v1.heap.size 0 ∧
    Fac ((v1.alloc (.cells #[.bool false, .slice oa on oc] 28)).alloc (.cells #[.bool false, .slice ob om od] 28)) (v1.heap.size + 1) 1 := by
  have hB := ((Below.refl v1.heap.size v1).alloc (Nat.le_refl _) (.cells #[.bool false, .slice oa on oc] 28)).alloc (by simp) (.cells #[.bool false, .slice ob om od] 28)
  obtain ⟨⟨c0, c1⟩, ⟨d0, d1⟩, ⟨f0, f1⟩, g0, g1⟩ := held22 (Below.refl ((v1.alloc (.cells #[.bool false, .slice oa on oc] 28)).alloc (.cells #[.bool false, .slice ob om od] 28)).heap.size ((v1.alloc (.cells #[.bool false, .slice oa on oc] 28)).alloc (.cells #[.bool false, .slice ob om od] 28)))
  exact ⟨⟨false, _, _, _, _, ⟨c0, c1⟩, ⟨f0, f1⟩, h0.below hB, by decide, by decide⟩, ⟨false, _, _, _, _, ⟨d0, d1⟩, ⟨g0, g1⟩, h1.below hB, by decide, by decide⟩⟩

end Go.Proofs.Ytchmlfjjgehbkaa

namespace Go.Proofs.Ytchmlfjjgehbkaa
open Go.RowKit

/-- A whole number's sign and limbs, as a call handed them back. -/
def WAt (w : World) (n : Bool) (a : Option Addr) (l c : Nat) (x : Int) : Prop := ∃ xs, Nums w a l c xs ∧ IsW n xs x
theorem WAt.below {w w' : World} {n : Bool} {a : Option Addr} {l c : Nat} {x : Int} (h : WAt w n a l c x) (hb : Below w.heap.size w w') : WAt w' n a l c x := by
  obtain ⟨xs, h1, h2⟩ := h
  exact ⟨xs, h1.below hb, h2⟩
theorem WAt.drew {w : World} {n : Bool} {a : Option Addr} {l c : Nat} {x : Int} (h : WAt w n a l c x) : WAt w.drew n a l c x := by
  obtain ⟨xs, h1, h2⟩ := h
  exact ⟨xs, h1.drawD, h2⟩
theorem WAt.grow {w : World} {n : Bool} {a : Option Addr} {l c : Nat} {x : Int} (h : WAt w n a l c x) (o : Obj) : WAt (w.alloc o) n a l c x := by
  obtain ⟨xs, h1, h2⟩ := h
  exact ⟨xs, h1.growD o, h2⟩
end Go.Proofs.Ytchmlfjjgehbkaa

namespace Go.Proofs.Ytchmlfjjgehbkaa
open Go.RowKit

theorem put2_below7 {B : Nat} {a w : World} (h : Below B a w) {g : Nat} (hg : B ≤ g) (x y : Value) : Below B a ((w.setCell ⟨g, 0, none⟩ x).setCell ⟨g, 1, none⟩ y) :=
  (h.setCell (p := ⟨g, 0, none⟩) hg x).setCell (p := ⟨g, 1, none⟩) hg y
theorem fac_keep7 {w : World} {g g' : Nat} (hne : g' ≠ g) {q : Bool} {sa : Option Addr} {sn sc : Nat} {v : Int} (c0 : w.cell? ⟨g, 0, none⟩ = some (.bool q)) (c1 : w.cell? ⟨g, 1, none⟩ = some (.slice sa sn sc)) (h : Fac w g' v) (x y : Value) : Fac ((w.setCell ⟨g, 0, none⟩ x).setCell ⟨g, 1, none⟩ y) g' v := by
  obtain ⟨p, a, n, c, L, ⟨e0, e1⟩, ⟨f0, f1⟩, hn, hr, hv⟩ := h
  exact ⟨p, a, n, c, L, ⟨(put2_other hne _ _).trans e0, (put2_other hne _ _).trans e1⟩, ⟨by simp [f0], by simp [f1]⟩, hn.put2 c0 c1 _ _, hr, hv⟩

/-- Two new variables hold x and y. -/
def Two7 (v : World) (x y : Int) (p12 p13 : Value) (wx : World) : Prop := ∃ g1 g2, p12 = .pointer (some ⟨g1, 0, none⟩) ∧ p13 = .pointer (some ⟨g2, 0, none⟩) ∧ Fac wx g1 x ∧ Fac wx g2 y ∧ Below v.heap.size v wx
theorem two_a {v w : World} {x y : Int} {q r : Bool} {qa ra : Option Addr} {qn qc rn rc : Nat} {qs rs : List Int} (hQ : Nums w qa qn qc qs) (hq : IsW q qs x) (hR : Nums w ra rn rc rs) (hr : IsW r rs y) (hb : Below v.heap.size v w) :
    Two7 v x y (.pointer (some ⟨w.heap.size, 0, none⟩)) (.pointer (some ⟨w.heap.size + 1, 0, none⟩)) ((w.alloc (.cells #[.bool q, .slice qa qn qc] 28)).alloc (.cells #[.bool r, .slice ra rn rc] 28)) := by
  have h1 := fac_alloc hQ hq.2.1 hq.2.2
  have h2 := fac_alloc (hR.growD (.cells #[.bool q, .slice qa qn qc] 28)) hr.2.1 hr.2.2
  rw [World.size_alloc] at h2
  exact ⟨_, _, rfl, rfl, h1.below ((Below.refl _ _).alloc (Nat.le_refl _) _), h2, bgrowD (bgrowD hb _) _⟩
theorem two_b {v w : World} {x y : Int} {q r : Bool} {qa ra : Option Addr} {qn qc rn rc : Nat} {qs rs : List Int} (hQ : Nums w qa qn qc qs) (hq : IsW q qs x) (hR : Nums w ra rn rc rs) (hr : IsW r rs y) (hb : Below v.heap.size v w) :
    Two7 v x y (.pointer (some ⟨w.heap.size + 1, 0, none⟩)) (.pointer (some ⟨w.heap.size, 0, none⟩)) ((w.alloc (.cells #[.bool r, .slice ra rn rc] 28)).alloc (.cells #[.bool q, .slice qa qn qc] 28)) := by
  obtain ⟨g1, g2, e1, e2, f1, f2, hb'⟩ := two_a hR hr hQ hq hb
  exact ⟨g2, g1, e2, e1, f2, f1, hb'⟩
theorem two_c {v w : World} {x y : Int} {q r p : Bool} {qa ra sa : Option Addr} {qn qc rn rc sn sc g : Nat} {qs rs : List Int} (hQ : Nums w qa qn qc qs) (hq : IsW q qs x) (hR : Nums w ra rn rc rs) (hr : IsW r rs y) (hb : Below v.heap.size v w)
    (c0 : w.cell? ⟨g, 0, none⟩ = some (.bool p)) (c1 : w.cell? ⟨g, 1, none⟩ = some (.slice sa sn sc)) (f0 : w.frozen? ⟨g, 0, none⟩ = false) (f1 : w.frozen? ⟨g, 1, none⟩ = false) (hg : v.heap.size ≤ g) :
    Two7 v x y (.pointer (some ⟨g, 0, none⟩)) (.pointer (some ⟨w.heap.size, 0, none⟩)) (((w.setCell ⟨g, 0, none⟩ (.bool q)).setCell ⟨g, 1, none⟩ (.slice qa qn qc)).alloc (.cells #[.bool r, .slice ra rn rc] 28)) := by
  have h1 := fac_put c0 c1 f0 f1 hQ hq.2.1 hq.2.2
  have h2 := fac_alloc (hR.put2 c0 c1 (.bool q) (.slice qa qn qc)) hr.2.1 hr.2.2
  have e : ((w.setCell ⟨g, 0, none⟩ (.bool q)).setCell ⟨g, 1, none⟩ (.slice qa qn qc)).heap.size = w.heap.size := by simp
  rw [e] at h2
  exact ⟨_, _, rfl, rfl, h1.below ((Below.refl _ _).alloc (Nat.le_refl _) _), h2, bgrowD (put2_below7 hb hg _ _) _⟩
theorem two_d {v w : World} {x y : Int} {q r p : Bool} {qa ra sa : Option Addr} {qn qc rn rc sn sc g : Nat} {qs rs : List Int} (hQ : Nums w qa qn qc qs) (hq : IsW q qs x) (hR : Nums w ra rn rc rs) (hr : IsW r rs y) (hb : Below v.heap.size v w)
    (c0 : w.cell? ⟨g, 0, none⟩ = some (.bool p)) (c1 : w.cell? ⟨g, 1, none⟩ = some (.slice sa sn sc)) (f0 : w.frozen? ⟨g, 0, none⟩ = false) (f1 : w.frozen? ⟨g, 1, none⟩ = false) (hg : v.heap.size ≤ g) :
    Two7 v x y (.pointer (some ⟨w.heap.size, 0, none⟩)) (.pointer (some ⟨g, 0, none⟩)) (((w.setCell ⟨g, 0, none⟩ (.bool r)).setCell ⟨g, 1, none⟩ (.slice ra rn rc)).alloc (.cells #[.bool q, .slice qa qn qc] 28)) := by
  obtain ⟨g1, g2, e1, e2, f1, f2, hb'⟩ := two_c hR hr hQ hq hb c0 c1 f0 f1 hg
  exact ⟨g2, g1, e2, e1, f2, f1, hb'⟩
theorem two_e {v w : World} {x y : Int} {q r p p' : Bool} {qa ra sa sa' : Option Addr} {qn qc rn rc sn sc sn' sc' g g' : Nat} {qs rs : List Int} (hQ : Nums w qa qn qc qs) (hq : IsW q qs x) (hR : Nums w ra rn rc rs) (hr : IsW r rs y) (hb : Below v.heap.size v w)
    (c0 : w.cell? ⟨g, 0, none⟩ = some (.bool p)) (c1 : w.cell? ⟨g, 1, none⟩ = some (.slice sa sn sc)) (f0 : w.frozen? ⟨g, 0, none⟩ = false) (f1 : w.frozen? ⟨g, 1, none⟩ = false) (hg : v.heap.size ≤ g)
    (d0 : w.cell? ⟨g', 0, none⟩ = some (.bool p')) (d1 : w.cell? ⟨g', 1, none⟩ = some (.slice sa' sn' sc')) (e0 : w.frozen? ⟨g', 0, none⟩ = false) (e1 : w.frozen? ⟨g', 1, none⟩ = false) (hg' : v.heap.size ≤ g') (hne : g' ≠ g) :
    Two7 v x y (.pointer (some ⟨g, 0, none⟩)) (.pointer (some ⟨g', 0, none⟩)) ((((w.setCell ⟨g, 0, none⟩ (.bool q)).setCell ⟨g, 1, none⟩ (.slice qa qn qc)).setCell ⟨g', 0, none⟩ (.bool r)).setCell ⟨g', 1, none⟩ (.slice ra rn rc)) := by
  have h1 := fac_put c0 c1 f0 f1 hQ hq.2.1 hq.2.2
  have k0 := (put2_other hne (.bool q) (.slice qa qn qc)).trans d0
  have k1 := (put2_other hne (.bool q) (.slice qa qn qc)).trans d1
  have h2 := fac_put k0 k1 (by simp [e0]) (by simp [e1]) (hR.put2 c0 c1 (.bool q) (.slice qa qn qc)) hr.2.1 hr.2.2
  exact ⟨_, _, rfl, rfl, fac_keep7 (Ne.symm hne) k0 k1 h1 _ _, h2, put2_below7 (put2_below7 hb hg _ _) hg' _ _⟩
end Go.Proofs.Ytchmlfjjgehbkaa

namespace Go.Proofs.Ytchmlfjjgehbkaa
open Go.RowKit

/-- A fraction that may be: a whole number by a number, in lowest terms. -/
def rightF (n : Bool) (xs ys : List Int) : Bool := rightI n xs && (rightB ys && (decide (0 < ys.length) && (decide (ys.length ≤ 16) && (decide (xs.length ≤ 16) && decide (Nat.gcd (nv xs) (nv ys) = 1)))))
/-- The greatest common divisor of a numerator and a denominator; both by it. -/
def gF (x : Int) (y : Nat) : Nat := Nat.gcd x.natAbs y
def numF (x : Int) (y : Nat) : Int := x / (gF x y : Int)
def denF (x : Int) (y : Nat) : Nat := y / gF x y
/-- What is told of x by y: a fault, or none. -/
def makF (x : Int) (y : Nat) : Option Int := if y = 0 then some 3 else if (numF x y).natAbs < 18446744073709551616 ^ 16 ∧ denF x y < 18446744073709551616 ^ 16 then none else some 4
/-- What is told: a fault's number, or a fraction. -/
def ToldF (f : Option Int) (x : Int) (y : Nat) (n : Bool) (xs ys : List Int) (err : Int) : Prop := (∃ e, f = some e ∧ (n = false ∧ xs = [] ∧ ys = []) ∧ err = e) ∨ (f = none ∧ (IsW n xs x ∧ IsN ys y) ∧ err = 0)
theorem ToldF.unique {f : Option Int} {x : Int} {y : Nat} {n m : Bool} {xs ys us vs : List Int} {e e' : Int} (h : ToldF f x y n xs ys e) (h' : ToldF f x y m us vs e') : n = m ∧ xs = us ∧ ys = vs ∧ e = e' := by
  rcases h with ⟨z, rfl, ⟨rfl, rfl, rfl⟩, rfl⟩ | ⟨rfl, ⟨h1, h2⟩, rfl⟩ <;> rcases h' with ⟨z', hz, ⟨rfl, rfl, rfl⟩, rfl⟩ | ⟨hz, ⟨k1, k2⟩, rfl⟩
  · cases hz; exact ⟨rfl, rfl, rfl, rfl⟩
  · cases hz
  · cases hz
  · obtain ⟨rfl, rfl⟩ := h1.unique k1
    obtain rfl := h2.unique k2
    exact ⟨rfl, rfl, rfl, rfl⟩
theorem ToldF.bad {f : Option Int} {x : Int} {y : Nat} {e : Int} (h : f = some e) : ToldF f x y false [] [] e := .inl ⟨e, h, ⟨rfl, rfl, rfl⟩, rfl⟩
theorem ToldF.good {f : Option Int} {x : Int} {y : Nat} {n : Bool} {xs ys : List Int} (h : f = none) (h1 : IsW n xs x) (h2 : IsN ys y) : ToldF f x y n xs ys 0 := .inr ⟨h, ⟨h1, h2⟩, rfl⟩

theorem rightF_iff (n : Bool) (xs ys : List Int) : rightF n xs ys = true ↔ rightI n xs = true ∧ rightB ys = true ∧ 0 < ys.length ∧ ys.length ≤ 16 ∧ xs.length ≤ 16 ∧ Nat.gcd (nv xs) (nv ys) = 1 := by simp [rightF]
theorem rightF_parts {n : Bool} {xs ys : List Int} (hx : Digs 18446744073709551616 xs) (hy : Digs 18446744073709551616 ys) (h : rightF n xs ys = true) : IsW n xs (iv n xs) ∧ IsN ys (nv ys) ∧ 0 < nv ys ∧ Nat.gcd (iv n xs).natAbs (nv ys) = 1 ∧ ((iv n xs).natAbs : Int) < 18446744073709551616 ^ 16 ∧ ((nv ys : Nat) : Int) < 18446744073709551616 ^ 16 := by
  obtain ⟨h1, h2, h3, h4, h5, h6⟩ := (rightF_iff n xs ys).1 h
  have hW := IsW.self hx h1
  have hN := IsN.self hy h2
  have hm := hW.mag
  refine ⟨hW, hN, (nv_pos hy h2).2 (by omega), ?_, ?_, ?_⟩
  · rw [← hm.nv]; exact h6
  · rw [← hm.2.2]; exact Int.lt_of_lt_of_le (val_lt_pow (by decide) hx (Nat.le_refl _)) (pow_mono (by decide) h5)
  · rw [← hN.2.2]; exact Int.lt_of_lt_of_le (val_lt_pow (by decide) hy (Nat.le_refl _)) (pow_mono (by decide) h4)

theorem gF_pos {x : Int} {y : Nat} (hy : 0 < y) : 0 < gF x y := Nat.gcd_pos_of_pos_right _ hy
theorem gF_num (x : Int) (y : Nat) : numF x y * (gF x y : Int) = x := Int.ediv_mul_cancel (Int.ofNat_dvd_left.2 (Nat.gcd_dvd_left _ _))
theorem gF_den (x : Int) (y : Nat) : denF x y * gF x y = y := Nat.div_mul_cancel (Nat.gcd_dvd_right _ _)
theorem num_abs (x : Int) (y : Nat) : (numF x y).natAbs = x.natAbs / gF x y := by
  rcases Nat.eq_zero_or_pos (gF x y) with e | e
  · unfold numF; rw [e]; simp
  · have h := gF_num x y
    have h2 : (numF x y).natAbs * gF x y = x.natAbs := by
      rw [← h, Int.natAbs_mul]
      simp [h]
    rw [← h2, Nat.mul_div_cancel _ e]
theorem den_pos {x : Int} {y : Nat} (hy : 0 < y) : 0 < denF x y := Nat.div_pos (Nat.le_of_dvd hy (Nat.gcd_dvd_right _ _)) (gF_pos hy)
theorem num_den {x : Int} {y : Nat} (hy : 0 < y) : Nat.gcd (numF x y).natAbs (denF x y) = 1 := by
  rw [num_abs]
  exact Nat.gcd_div_gcd_div_gcd_of_pos_right hy
/-- Two fractions of one value in lowest terms are the same. -/
theorem low_unique {x u : Int} {y v : Nat} (hy : 0 < y) (hv : 0 < v) (hx : Nat.gcd x.natAbs y = 1) (hu : Nat.gcd u.natAbs v = 1) (h : x * (v : Int) = u * (y : Int)) : x = u ∧ y = v := by
  have ha : x.natAbs * v = u.natAbs * y := by
    have := congrArg Int.natAbs h
    rw [Int.natAbs_mul, Int.natAbs_mul] at this
    simpa using this
  have h1 : y ∣ v := (Nat.Coprime.symm hx).dvd_of_dvd_mul_left (by rw [ha]; exact Nat.dvd_mul_left _ _)
  have h2 : v ∣ y := (Nat.Coprime.symm hu).dvd_of_dvd_mul_left (by rw [← ha]; exact Nat.dvd_mul_left _ _)
  have e : y = v := Nat.dvd_antisymm h1 h2
  subst e
  exact ⟨Int.eq_of_mul_eq_mul_right (by omega) h, rfl⟩
/-- What x by y is in lowest terms. -/
theorem low_of {x u : Int} {y v : Nat} (hy : 0 < y) (hv : 0 < v) (hu : Nat.gcd u.natAbs v = 1) (h : x * (v : Int) = u * (y : Int)) : numF x y = u ∧ denF x y = v := by
  refine low_unique (den_pos hy) hv (num_den hy) hu ?_
  have h1 := gF_num x y
  have h2 := gF_den x y
  have hg := gF_pos (x := x) hy
  refine Int.eq_of_mul_eq_mul_right (a := (gF x y : Int)) (by omega) ?_
  have e1 : numF x y * (v : Int) * (gF x y : Int) = numF x y * (gF x y : Int) * (v : Int) := by rw [Int.mul_assoc, Int.mul_comm (v : Int), ← Int.mul_assoc]
  have e2 : u * (denF x y : Int) * (gF x y : Int) = u * (y : Int) := by rw [Int.mul_assoc, ← Int.natCast_mul, h2]
  rw [e1, e2, h1, h]
theorem num_sign {x : Int} {y : Nat} (hy : 0 < y) : (numF x y < 0 ↔ x < 0) ∧ (numF x y = 0 ↔ x = 0) := by
  have h1 := gF_num x y
  have hg := gF_pos (x := x) hy
  obtain ⟨g, hge⟩ : ∃ g : Int, g = (gF x y : Int) := ⟨_, rfl⟩
  have hg0 : 0 < g := by omega
  rw [← hge] at h1
  constructor
  · constructor
    · intro h
      rw [← h1]
      exact Int.mul_neg_of_neg_of_pos h hg0
    · intro h
      rcases Int.lt_or_le (numF x y) 0 with c | c
      · exact c
      · have := Int.mul_nonneg c (Int.le_of_lt hg0)
        omega
  · constructor
    · intro h
      rw [h, Int.zero_mul] at h1
      exact h1.symm
    · intro h
      rcases Int.mul_eq_zero.1 (h1.trans h) with c | c
      · exact c
      · omega
end Go.Proofs.Ytchmlfjjgehbkaa

namespace Go.Proofs.Ytchmlfjjgehbkaa
open Go.RowKit

theorem refRest_any (a b : Option Addr) (la ca lb cb : Nat) (zs ys : List Int) (w : World) (h : Nums w a la ca zs) (h' : Nums w b lb cb ys) :
    Calls Try.prog 56 #[.slice a la ca, .slice b lb cb] w fun e w' => ∃ ra rn rc rs qs err, e = .returned (.slice ra rn rc) ∧ Nums w' ra rn rc rs ∧ ResDiv zs ys qs rs err ∧ Below w.heap.size w w' := by
  go_enter Try.func56, Try.ntmps56
  go_wp2_with fail
  refine (refDiv_any _ _ _ _ _ _ _ _ _ h h').mono ?_
  rintro e w1 ⟨qa, qn, qc, qs, ra, rn, rc, rs, err, rfl, hQ, hR, hD, hb⟩
  have HD : Hid (ResDiv zs ys qs rs err) := hD
  clear hD
  go_wp2_with fail
  go_ret
  exact ⟨_, _, _, _, _, _, rfl, hR, HD.out, hb⟩

set_option maxHeartbeats 1000000 in
theorem refGcd_all (a b : Option Addr) (la ca lb cb : Nat) (zs ys : List Int) (w : World) (h : Nums w a la ca zs) (h' : Nums w b lb cb ys) :
    Calls Try.prog 37 #[.slice a la ca, .slice b lb cb] w fun e w' => ∃ a' n' c' ls err, e = .returned (.tuple #[.slice a' n' c', .int .i64 err]) ∧ Nums w' a' n' c' ls ∧ ResGcd zs ys ls err ∧ Below w.heap.size w w' := by
  cases hr : rightB zs with
  | false =>
    go_enter Try.func37, Try.ntmps37
    go_wp2_with fail
    refine (refRight_any _ _ _ _ _ h).mono ?_
    rintro e w' ⟨rfl, rfl⟩
    rw [hr]
    go_wp2_with fail
    refine (refRight_any _ _ _ _ _ h').mono ?_
    rintro e w' ⟨rfl, rfl⟩
    go_wp2_with fail
    go_ret2
    exact ⟨none, 0, 0, [], 1, rfl, Nums.nil _, by simp [ResGcd, hr], Below.refl _ _⟩
  | true =>
  cases hr' : rightB ys with
  | false =>
    go_enter Try.func37, Try.ntmps37
    go_wp2_with fail
    refine (refRight_any _ _ _ _ _ h).mono ?_
    rintro e w' ⟨rfl, rfl⟩
    rw [hr]
    go_wp2_with fail
    refine (refRight_any _ _ _ _ _ h').mono ?_
    rintro e w' ⟨rfl, rfl⟩
    rw [hr']
    go_wp2_with fail
    go_ret2
    exact ⟨none, 0, 0, [], 1, rfl, Nums.nil _, by simp [ResGcd, hr'], Below.refl _ _⟩
  | true =>
    have hd := h.digs
    have hd' := h'.digs
    have hla : la ≤ 64 := by have := right_len hr; have := h.hlen; omega
    have hlb : lb ≤ 64 := by have := right_len hr'; have := h'.hlen; omega
    go_enter Try.func37, Try.ntmps37
    go_wp2_with fail
    refine (refRight_any _ _ _ _ _ h).mono ?_
    rintro e w' ⟨rfl, rfl⟩
    rw [hr]
    go_wp2_with fail
    refine (refRight_any _ _ _ _ _ h').mono ?_
    rintro e w ⟨rfl, rfl⟩
    rw [hr']
    have hown := Own.empty w
    have hb0 := (Below.refl w.heap.size w).alloc (Nat.le_refl _) (.cells #[] 45)
    have h1 := h.below hb0
    go_wp2_with (at_builtin; refine wpList_appM _ rfl _ _ 26 rfl Try.underlying26 w.heap.size _ [] rfl hown a la ca zs rfl h1 ?c1 w ?c2 hb0 ?c3)
    case c1 => simp; omega
    case c2 => simp
    case c3 =>
      intro v' w2 hown1 hb1
      obtain ⟨a1, n1, cap1, rfl, hn1, -⟩ := hown1.fresh hd
      have hown2 := Own.empty w2
      have hb2 := (Below.refl w2.heap.size w2).alloc (Nat.le_refl _) (.cells #[] 45)
      have h2 := (h'.below hb1).below hb2
      clear hown1 hown h1 hb0
      go_wp2_with (at_builtin; refine wpList_appM _ rfl _ _ 26 rfl Try.underlying26 w2.heap.size _ [] rfl hown2 b lb cb ys rfl h2 ?d1 w2 ?d2 hb2 ?d3)
      case d1 => simp; omega
      case d2 => simp
      case d3 =>
        intro v'' w3 hown3 hb3
        obtain ⟨b1, m1, bcap1, rfl, hm1, -⟩ := hown3.fresh hd'
        have X0 := hn1.below hb3
        have hB3 := hb1.trans (hb3.mono hb1.size)
        obtain ⟨G, hG⟩ : ∃ G, G = gz (val 18446744073709551616 zs) (val 18446744073709551616 ys) := ⟨_, rfl⟩
        have HG : Hid (G = gz (val 18446744073709551616 zs) (val 18446744073709551616 ys)) := hG
        clear hG hown2 hown3 h2 hb2 hb1 hb3 hn1
        go_wp2_with fail
        go_loopg [8, 9, 10] ((val 18446744073709551616 ys).toNat + 1) (fun k xv yv rv wr => ∃ xa xn xc xs ya yn yc us, xv = .slice xa xn xc ∧ yv = .slice ya yn yc ∧ (Nums wr xa xn xc xs ∧ Nums wr ya yn yc us) ∧ (rightB xs = true ∧ rightB us = true) ∧ gz (val 18446744073709551616 xs) (val 18446744073709551616 us) = G ∧ (val 18446744073709551616 us).toNat < k ∧ Below w.heap.size w wr)
        case atStart => exact ⟨a1, n1, cap1, zs, b1, m1, bcap1, ys, rfl, rfl, ⟨X0, hm1⟩, ⟨hr, hr'⟩, HG.out.symm, by omega, hB3⟩
        case round =>
          clear X0 hm1 hB3
          obtain ⟨xa, xn, xc, xs, ya, yn, yc, us, rfl, rfl, ⟨hx, hy⟩, ⟨rx, ry⟩, hg, hk, hbr⟩ := hrel
          have nx := val_nonneg (B := 18446744073709551616) (by decide) hx.digs
          have ny := val_nonneg (B := 18446744073709551616) (by decide) hy.digs
          have hyl := hy.hlen
          have hym := hy.hmax
          have hyc := hy.hcap
          unfold maxLen at hym
          by_cases h0 : yn = 0
          · have e : us = [] := List.eq_nil_of_length_eq_zero (by omega)
            subst e
            subst h0
            rw [val_nil, gz_zero nx] at hg
            have HV : Hid (val 18446744073709551616 xs = G) := hg
            have hdx := hx.digs
            clear hg hyl hk
            go_wp2_with fail
            go_ret2
            refine ⟨_, _, _, xs, _, rfl, hx, ?_, hbr⟩
            simp only [ResGcd, hr, hr', Bool.and_self, if_true]
            exact ⟨trivial, hdx, rx, HV.out.trans HG.out⟩
          · have hp0 : (0 : Int) < (yn : Int) := by omega
            have hu0 : us.length ≠ 0 := by omega
            have HU : Hid (us.length ≠ 0 ∧ gz (val 18446744073709551616 xs) (val 18446744073709551616 us) = G ∧ (val 18446744073709551616 us).toNat < gk) := ⟨hu0, hg, hk⟩
            clear hyl hu0 hg hk
            go_wp2_with fail
            refine (refRest_any _ _ _ _ _ _ _ _ _ hx hy).mono ?_
            rintro e w4 ⟨ra, rn, rc, rs, qs, err, rfl, hR, hD, hb4⟩
            obtain ⟨-, ⟨-, rr⟩, -, -, vr⟩ := ResDiv.parts rx ry HU.out.1 hD
            have hp := right_pos hy.digs ry HU.out.1
            have hlt := Int.emod_lt_of_pos (val 18446744073709551616 xs) hp
            have hnn := Int.emod_nonneg (val 18446744073709551616 xs) (show val 18446744073709551616 us ≠ 0 by omega)
            have HV : Hid (gz (val 18446744073709551616 us) (val 18446744073709551616 rs) = G ∧ (val 18446744073709551616 rs).toNat + 1 < gk) := by
              refine ⟨?_, ?_⟩
              · rw [vr, gz_step nx ny, HU.out.2.1]
              · have := HU.out.2.2; rw [vr]; omega
            have Y4 := hy.below hb4
            have hB4 := hbr.trans (hb4.mono hbr.size)
            clear hD vr hlt hnn hp hb4 hbr hx hy nx ny HU
            go_wp2_with fail
            go_roundg ((val 18446744073709551616 rs).toNat + 1)
            case measure => exact HV.out.2
            case rel => exact ⟨ya, yn, yc, us, ra, rn, rc, rs, rfl, rfl, ⟨Y4, hR⟩, ⟨ry, rr⟩, HV.out.1, by omega, hB4⟩
theorem refGcd_any (a b : Option Addr) (la ca lb cb : Nat) (zs ys : List Int) (w : World) (h : Nums w a la ca zs) (h' : Nums w b lb cb ys) (_ : a = none → ca = 0) (_ : b = none → cb = 0) :
    Calls Try.prog 37 #[.slice a la ca, .slice b lb cb] w fun e w' => ∃ a' n' c' ls err, e = .returned (.tuple #[.slice a' n' c', .int .i64 err]) ∧ Nums w' a' n' c' ls ∧ ResGcd zs ys ls err ∧ Below w.heap.size w w' := refGcd_all a b la ca lb cb zs ys w h h'
end Go.Proofs.Ytchmlfjjgehbkaa

namespace Go.Proofs.Ytchmlfjjgehbkaa
open Go.RowKit

theorem len_16 {ls : List Int} {v : Nat} (h : IsN ls v) : ls.length ≤ 16 ↔ v < 18446744073709551616 ^ 16 := by
  constructor
  · intro hl
    have h1 := Int.lt_of_lt_of_le (val_lt_pow (B := 18446744073709551616) (by decide) h.1 (Nat.le_refl _)) (pow_mono (B := 18446744073709551616) (by decide) hl)
    rw [h.2.2] at h1
    have e : ((18446744073709551616 ^ 16 : Nat) : Int) = 18446744073709551616 ^ 16 := by decide
    omega
  · intro hv
    refine h.len (k := 16) ?_
    have e : ((18446744073709551616 ^ 16 : Nat) : Int) = 18446744073709551616 ^ 16 := by decide
    omega
theorem cmpZ_eq0 {x y : Int} : cmpZ x y = 0 ↔ x = y := by
  unfold cmpZ
  split <;> (try split) <;> omega
theorem gcd_isN {zs ys ls : List Int} {x y : Nat} {e : Int} (hx : IsN zs x) (hy : IsN ys y) (h : ResGcd zs ys ls e) : IsN ls (Nat.gcd x y) := by
  unfold ResGcd at h
  rw [hx.2.1, hy.2.1, if_pos (by rfl), hx.2.2, hy.2.2] at h
  refine ⟨h.2.1, h.2.2.1, h.2.2.2.trans ?_⟩
  unfold gz
  rw [Int.toNat_natCast, Int.toNat_natCast]

set_option maxHeartbeats 800000 in
theorem r8same_any (n m : Bool) (a b c d : Option Addr) (la ca lb cb lc cc ld cd : Nat) (xs ys us vs : List Int) (w : World) (h1 : Nums w a la ca xs) (h2 : Nums w b lb cb ys) (h3 : Nums w c lc cc us) (h4 : Nums w d ld cd vs) :
    Calls Try.prog 9 #[.agg #[.bool n, .slice a la ca, .slice b lb cb], .agg #[.bool m, .slice c lc cc, .slice d ld cd]] w fun e w' => e = .returned (.bool (decide (n = m) && sameB xs us && sameB ys vs)) ∧ Below w.heap.size w w' := by
  obtain ⟨V, hVe⟩ : ∃ V, V = (w.alloc (.cells #[.bool n, .slice a la ca, .slice b lb cb] 30)).alloc (.cells #[.bool m, .slice c lc cc, .slice d ld cd] 30) := ⟨_, rfl⟩
  have hv1 := (Below.refl w.heap.size w).alloc (Nat.le_refl _) (.cells #[.bool n, .slice a la ca, .slice b lb cb] 30)
  have hv2 := (Below.refl (w.alloc (.cells #[.bool n, .slice a la ca, .slice b lb cb] 30)).heap.size (w.alloc (.cells #[.bool n, .slice a la ca, .slice b lb cb] 30))).alloc (Nat.le_refl _) (.cells #[.bool m, .slice c lc cc, .slice d ld cd] 30)
  have hV := hv1.trans (hv2.mono hv1.size)
  have c2 : (w.alloc (.cells #[.bool n, .slice a la ca, .slice b lb cb] 30)).cell? ⟨w.heap.size, 2, none⟩ = some (.slice b lb cb) := by simp
  replace c2 := bkeep hv2 c2 rfl
  rw [← hVe] at hV c2
  have d2 : V.cell? ⟨w.heap.size + 1, 2, none⟩ = some (.slice d ld cd) := by rw [hVe]; simp
  have HVe : Hid (V = (w.alloc (.cells #[.bool n, .slice a la ca, .slice b lb cb] 30)).alloc (.cells #[.bool m, .slice c lc cc, .slice d ld cd] 30)) := hVe
  clear hVe hv1 hv2
  go_enter Try.func9, Try.ntmps9
  go_wp2_with fail
  rw [← HVe.out]
  refine (isame_any n m _ _ _ _ _ _ _ _ _ (h1.below hV) (h3.below hV)).mono ?_
  rintro e w1 ⟨rfl, hb1⟩
  have hB1 := hV.trans (hb1.mono hV.size)
  replace c2 := bkeep hb1 c2 rfl
  replace d2 := bkeep hb1 d2 rfl
  replace h2 := h2.below hB1
  replace h4 := h4.below hB1
  obtain ⟨t, ht⟩ : ∃ t, t = (decide (n = m) && sameB xs us) := ⟨_, rfl⟩
  rw [← ht]
  have HT : Hid (t = (decide (n = m) && sameB xs us)) := ht
  clear ht HVe hb1 hV h1 h3
  go_wp2_with fail
  refine (same_any _ _ _ _ _ _ _ _ _ h2 h4).mono ?_
  rintro e w2 ⟨rfl, hb2⟩
  have hB2 := hB1.trans (hb2.mono hB1.size)
  obtain ⟨u, hu⟩ : ∃ u, u = sameB ys vs := ⟨_, rfl⟩
  rw [← hu]
  have HU : Hid (u = sameB ys vs) := hu
  clear hu h2 h4 hB1 hb2 c2 d2
  cases t with
  | false =>
    go_wp2
    go_ret
    exact ⟨ret_bool (by rw [← HT.out]; rfl), hB2⟩
  | true =>
    go_wp2
    go_ret
    exact ⟨ret_bool (by rw [← HT.out, ← HU.out]; rfl), hB2⟩
end Go.Proofs.Ytchmlfjjgehbkaa

namespace Go.Proofs.Ytchmlfjjgehbkaa
open Go.RowKit

/-- What a call that tells a fraction or a fault makes. -/
def FracT (f : Option Int) (x : Int) (y : Nat) (w : World) (e : Ending) (w' : World) : Prop := ∃ m p l c q l' c' us vs err, e = .returned (.tuple #[.agg #[.bool m, .slice p l c, .slice q l' c'], .int .i64 err]) ∧ (Nums w' p l c us ∧ Nums w' q l' c' vs) ∧ ToldF f x y m us vs err ∧ Below w.heap.size w w'
def makeFF (n : Bool) (xs ys : List Int) : Option Int := if rightI n xs && rightB ys then makF (iv n xs) (nv ys) else some 1

/-- The cells of a fraction's variable. -/
structure Cell3 (w : World) (g : Nat) (p : Bool) (a : Option Addr) (l c : Nat) (b : Option Addr) (l' c' : Nat) : Prop where
  c0 : w.cell? ⟨g, 0, none⟩ = some (.bool p)
  c1 : w.cell? ⟨g, 1, none⟩ = some (.slice a l c)
  c2 : w.cell? ⟨g, 2, none⟩ = some (.slice b l' c')
  f0 : w.frozen? ⟨g, 0, none⟩ = false
  f1 : w.frozen? ⟨g, 1, none⟩ = false
  f2 : w.frozen? ⟨g, 2, none⟩ = false
theorem Cell3.below {w w' : World} {g : Nat} {p : Bool} {a b : Option Addr} {l c l' c' : Nat} (h : Cell3 w g p a l c b l' c') (hb : Below w.heap.size w w') : Cell3 w' g p a l c b l' c' := by
  have hlt := World.block_lt_of_cell? _ _ h.c0
  exact ⟨bkeep hb h.c0 rfl, bkeep hb h.c1 rfl, bkeep hb h.c2 rfl, ((bcell hb).2 _ _ hlt).trans h.f0, ((bcell hb).2 _ _ hlt).trans h.f1, ((bcell hb).2 _ _ hlt).trans h.f2⟩
theorem Cell3.new (w : World) (p : Bool) (a b : Option Addr) (l c l' c' : Nat) : Cell3 (w.alloc (.cells #[.bool p, .slice a l c, .slice b l' c'] 30)) w.heap.size p a l c b l' c' :=
  ⟨by simp, by simp, by simp, by simp, by simp, by simp⟩
/-- A fraction is stored: no word has turned. -/
theorem Nums.put3 {w : World} {g : Nat} {p : Bool} {a b : Option Addr} {l c l' c' : Nat} (h : Cell3 w g p a l c b l' c') {q : Option Addr} {n m : Nat} {zs : List Int} (hn : Nums w q n m zs) (x y z : Value) :
    Nums (((w.setCell ⟨g, 0, none⟩ x).setCell ⟨g, 1, none⟩ y).setCell ⟨g, 2, none⟩ z) q n m zs := by
  refine (hn.put2 h.c0 h.c1 x y).put (x := .slice b l' c') ?_ (fun z => by simp) z
  rw [World.cell?_setCell_other, World.cell?_setCell_other]
  · exact h.c2
  · simp
  · simp
theorem put3_below {B : Nat} {a w : World} (h : Below B a w) {g : Nat} (hg : B ≤ g) (x y z : Value) : Below B a (((w.setCell ⟨g, 0, none⟩ x).setCell ⟨g, 1, none⟩ y).setCell ⟨g, 2, none⟩ z) :=
  ((h.setCell (p := ⟨g, 0, none⟩) hg x).setCell (p := ⟨g, 1, none⟩) hg y).setCell (p := ⟨g, 2, none⟩) hg z

theorem div_isN {zs ys qs rs : List Int} {x y : Nat} {err : Int} (hx : IsN zs x) (hy : IsN ys y) (hp : 0 < y) (h : ResDiv zs ys qs rs err) : IsN qs (x / y) := by
  unfold ResDiv at h
  rw [hx.2.1, hy.2.1, if_pos (by rfl), if_neg (by have := hy.pos hp; omega), hx.2.2, hy.2.2] at h
  obtain ⟨_, k1, _, k2, _, k3, _⟩ := h
  exact ⟨k1, k2, by rw [k3, ← Int.natCast_ediv]⟩
theorem num_from {n : Bool} {x : Int} {y : Nat} (hn : n = decide (x < 0)) (hy : 0 < y) : (if n then -((x.natAbs / gF x y : Nat) : Int) else ((x.natAbs / gF x y : Nat) : Int)) = numF x y := by
  have h1 := num_abs x y
  have h2 := (num_sign (x := x) hy).1
  rw [← h1]
  subst hn
  by_cases c : x < 0
  · rw [decide_eq_true c, if_pos rfl]
    have := h2.2 c
    omega
  · rw [decide_eq_false c, if_neg (by simp)]
    have : ¬ numF x y < 0 := fun k => c (h2.1 k)
    omega

set_option maxRecDepth 20000 in
set_option maxHeartbeats 6400000 in
theorem r8make_any (n : Bool) (a b : Option Addr) (la ca lb cb : Nat) (xs ys : List Int) (w : World) (h : Nums w a la ca xs) (h' : Nums w b lb cb ys) :
    Calls Try.prog 18 #[.agg #[.bool n, .slice a la ca], .slice b lb cb] w fun e w' => FracT (makeFF n xs ys) (numF (iv n xs) (nv ys)) (denF (iv n xs) (nv ys)) w e w' := by
  obtain ⟨X, hX⟩ : ∃ X, X = numF (iv n xs) (nv ys) := ⟨_, rfl⟩
  obtain ⟨Y, hY⟩ : ∃ Y, Y = denF (iv n xs) (nv ys) := ⟨_, rfl⟩
  rw [← hX, ← hY]
  have HXY : Hid (X = numF (iv n xs) (nv ys) ∧ Y = denF (iv n xs) (nv ys)) := ⟨hX, hY⟩
  clear hX hY
  obtain ⟨V, hVe⟩ : ∃ V, V = (w.alloc (.cells #[.bool n, .slice a la ca] 28)).alloc (.cells #[.bool false, .slice none 0 0, .slice none 0 0] 30) := ⟨_, rfl⟩
  have hv1 := (Below.refl w.heap.size w).alloc (Nat.le_refl _) (.cells #[.bool n, .slice a la ca] 28)
  have hv2 := (Below.refl (w.alloc (.cells #[.bool n, .slice a la ca] 28)).heap.size (w.alloc (.cells #[.bool n, .slice a la ca] 28))).alloc (Nat.le_refl _) (.cells #[.bool false, .slice none 0 0, .slice none 0 0] 30)
  have hV := hv1.trans (hv2.mono hv1.size)
  have c0 : (w.alloc (.cells #[.bool n, .slice a la ca] 28)).cell? ⟨w.heap.size, 0, none⟩ = some (.bool n) := by simp
  have c1 : (w.alloc (.cells #[.bool n, .slice a la ca] 28)).cell? ⟨w.heap.size, 1, none⟩ = some (.slice a la ca) := by simp
  replace c0 := bkeep hv2 c0 rfl
  replace c1 := bkeep hv2 c1 rfl
  have hR := Cell3.new (w.alloc (.cells #[.bool n, .slice a la ca] 28)) false none none 0 0 0 0
  rw [World.size_alloc] at hR
  rw [← hVe] at hV c0 c1 hR
  replace h := h.below hV
  replace h' := h'.below hV
  have hm2 := h'.hmax
  have hc2 := h'.hcap
  have hl2 := h'.hlen
  unfold maxLen at hm2
  have HL : Hid (ys.length = lb) := hl2
  have HVe : Hid (V = (w.alloc (.cells #[.bool n, .slice a la ca] 28)).alloc (.cells #[.bool false, .slice none 0 0, .slice none 0 0] 30)) := hVe
  have hgr : w.heap.size ≤ w.heap.size + 1 := Nat.le_succ _
  clear hVe hv1 hv2 hl2
  go_enter Try.func18, Try.ntmps18
  go_wp2_with fail
  rw [← HVe.out]
  refine (refIRight_any n _ _ _ _ _ h).mono ?_
  rintro e w1 ⟨rfl, hb1⟩
  have hB1 := hV.trans (hb1.mono hV.size)
  replace h := h.below hb1
  replace h' := h'.below hb1
  replace c0 := bkeep hb1 c0 rfl
  replace c1 := bkeep hb1 c1 rfl
  replace hR := hR.below hb1
  have HR := (show Hid _ from refRight_any _ _ _ _ _ h')
  clear hV hb1 HVe
  cases hr : rightI n xs with
  | false =>
    have HF : Hid (ToldF (makeFF n xs ys) X Y false [] [] 1) := ToldF.bad (by unfold makeFF; rw [hr]; rfl)
    have hBB := put3_below hB1 hgr (.bool false) (.slice none 0 0) (.slice none 0 0)
    obtain ⟨r0, r1, r2, f0, f1, f2⟩ := hR
    clear h h'
    go_wp2_with fail
    refine Calls.mono HR.out ?_
    rintro e w2 ⟨rfl, rfl⟩
    clear HR hB1
    go_wp2_with fail
    exact bodyPost_ret (v := .tuple #[.agg #[.bool false, .slice none 0 0, .slice none 0 0], .int .i64 1]) (by simp [results, Try.results18, go_sem, r0, r1, r2]) rfl ⟨false, none, 0, 0, none, 0, 0, [], [], 1, rfl, ⟨Nums.nil _, Nums.nil _⟩, HF.out, hBB⟩
  | true =>
  cases hr' : rightB ys with
  | false =>
    rw [hr'] at HR
    have HF : Hid (ToldF (makeFF n xs ys) X Y false [] [] 1) := ToldF.bad (by unfold makeFF; rw [hr', Bool.and_false]; rfl)
    have hBB := put3_below hB1 hgr (.bool false) (.slice none 0 0) (.slice none 0 0)
    obtain ⟨r0, r1, r2, f0, f1, f2⟩ := hR
    clear h h'
    go_wp2_with fail
    refine Calls.mono HR.out ?_
    rintro e w2 ⟨rfl, rfl⟩
    clear HR hB1
    go_wp2_with fail
    exact bodyPost_ret (v := .tuple #[.agg #[.bool false, .slice none 0 0, .slice none 0 0], .int .i64 1]) (by simp [results, Try.results18, go_sem, r0, r1, r2]) rfl ⟨false, none, 0, 0, none, 0, 0, [], [], 1, rfl, ⟨Nums.nil _, Nums.nil _⟩, HF.out, hBB⟩
  | true =>
    rw [hr'] at HR
    go_wp2_with fail
    refine Calls.mono HR.out ?_
    rintro e w2 ⟨rfl, rfl⟩
    clear HR
    have hW := IsW.self h.digs hr
    have hmag := hW.mag
    have hsg : Hid (n = decide (iv n xs < 0)) := hW.sign
    have hy := IsN.self h'.digs hr'
    have hyp := nv_pos h'.digs hr'
    have hFF : Hid (makeFF n xs ys = makF (iv n xs) (nv ys)) := by show _ = _; unfold makeFF; rw [hr, hr']; rfl
    by_cases h0 : lb = 0
    · subst h0
      have HF : Hid (ToldF (makeFF n xs ys) X Y false [] [] 3) := ToldF.bad (by rw [hFF.out]; unfold makF; rw [if_pos (by have := HL.out; omega)])
      have hBB := put3_below hB1 hgr (.bool false) (.slice none 0 0) (.slice none 0 0)
      obtain ⟨r0, r1, r2, f0, f1, f2⟩ := hR
      clear h h' hW hmag hsg hy hyp hFF hB1
      go_wp2_with fail
      exact bodyPost_ret (v := .tuple #[.agg #[.bool false, .slice none 0 0, .slice none 0 0], .int .i64 3]) (by simp [results, Try.results18, go_sem, r0, r1, r2]) rfl ⟨false, none, 0, 0, none, 0, 0, [], [], 3, rfl, ⟨Nums.nil _, Nums.nil _⟩, HF.out, hBB⟩
    have h0i : ((lb : Int) == 0) = false := by simp; omega
    have hy0 : 0 < nv ys := hyp.2 (by rw [HL.out]; exact h0)
    have hgp := gF_pos (x := iv n xs) hy0
    clear hyp
    go_wp2_with fail
    refine (refGcd_all _ _ _ _ _ _ _ _ _ h h').mono ?_
    rintro e w3 ⟨ga, gl, gc, gs, ge, rfl, hG, hRes, hb3⟩
    have hg : IsN gs (gF (iv n xs) (nv ys)) := gcd_isN hmag hy hRes
    have hB3 := hB1.trans (hb3.mono hB1.size)
    replace h := h.below hb3
    replace h' := h'.below hb3
    replace c0 := bkeep hb3 c0 rfl
    replace c1 := bkeep hb3 c1 rfl
    replace hR := hR.below hb3
    clear hRes hb3 hB1
    go_wp2_with fail
    refine (refDiv_any _ _ _ _ _ _ _ _ _ h hG).mono ?_
    rintro e w4 ⟨pa, pl, pc, ps, ra, rl, rc, rs, pe, rfl, hPn, -, hD4, hb4⟩
    have hp := div_isN hmag hg hgp hD4
    have hB4 := hB3.trans (hb4.mono hB3.size)
    replace h' := h'.below hb4
    replace hG := hG.below hb4
    replace c0 := bkeep hb4 c0 rfl
    replace hR := hR.below hb4
    clear hD4 hb4 hB3 h c1
    go_wp2_with fail
    refine (refDiv_any _ _ _ _ _ _ _ _ _ h' hG).mono ?_
    rintro e w5 ⟨da, dl, dc, ds, sa, sl, sc, ss, de, rfl, hDn, -, hD5, hb5⟩
    have hd := div_isN hy hg hgp hD5
    have hB5 := hB4.trans (hb5.mono hB4.size)
    replace hPn := hPn.below hb5
    replace c0 := bkeep hb5 c0 rfl
    replace hR := hR.below hb5
    have hpl := hPn.hlen
    have hdl := hDn.hlen
    have q1 := hPn.hmax
    have q2 := hPn.hcap
    have q3 := hDn.hmax
    have q4 := hDn.hcap
    unfold maxLen at q1 q3
    have l1 := len_16 hp
    have l2 := len_16 hd
    rw [hpl] at l1
    rw [hdl] at l2
    have hmk : makeFF n xs ys = if pl ≤ 16 ∧ dl ≤ 16 then none else some 4 := by
      rw [hFF.out]
      unfold makF
      rw [if_neg (by omega), num_abs]
      by_cases c : pl ≤ 16 ∧ dl ≤ 16
      · rw [if_pos c, if_pos ⟨l1.1 c.1, l2.1 c.2⟩]
      · rw [if_neg c, if_neg (fun k => c ⟨l1.2 k.1, l2.2 k.2⟩)]
    have HMk : Hid (makeFF n xs ys = if pl ≤ 16 ∧ dl ≤ 16 then none else some 4) := hmk
    have HD : Hid (IsN ds Y) := by show IsN _ _; rw [HXY.out.2]; exact hd
    have HW : Hid (IsW (fromN n ps) (fromL ps) X) := by
      show IsW _ _ _
      rw [HXY.out.1, ← num_from hsg.out hy0]
      exact IsW.from hp n
    clear hD5 hb5 hB4 h' hG hW hmag hsg hy hFF hy0 hgp hg hp hd l1 l2 hmk hpl hdl
    by_cases p16 : 16 < pl
    · have p16i : (16 : Int) < (pl : Int) := by omega
      have HF : Hid (ToldF (makeFF n xs ys) X Y false [] [] 4) := ToldF.bad (by rw [HMk.out, if_neg (by omega)])
      have hBB := put3_below hB5 hgr (.bool false) (.slice none 0 0) (.slice none 0 0)
      obtain ⟨r0, r1, r2, f0, f1, f2⟩ := hR
      clear HMk HD HW hPn hDn hB5
      go_wp2_with fail
      exact bodyPost_ret (v := .tuple #[.agg #[.bool false, .slice none 0 0, .slice none 0 0], .int .i64 4]) (by simp [results, Try.results18, go_sem, r0, r1, r2]) rfl ⟨false, none, 0, 0, none, 0, 0, [], [], 4, rfl, ⟨Nums.nil _, Nums.nil _⟩, HF.out, hBB⟩
    have p16i : decide ((16 : Int) < (pl : Int)) = false := decide_eq_false (by omega)
    by_cases d16 : 16 < dl
    · have d16i : (16 : Int) < (dl : Int) := by omega
      have HF : Hid (ToldF (makeFF n xs ys) X Y false [] [] 4) := ToldF.bad (by rw [HMk.out, if_neg (by omega)])
      have hBB := put3_below hB5 hgr (.bool false) (.slice none 0 0) (.slice none 0 0)
      obtain ⟨r0, r1, r2, f0, f1, f2⟩ := hR
      clear HMk HD HW hPn hDn hB5
      go_wp2_with fail
      exact bodyPost_ret (v := .tuple #[.agg #[.bool false, .slice none 0 0, .slice none 0 0], .int .i64 4]) (by simp [results, Try.results18, go_sem, r0, r1, r2]) rfl ⟨false, none, 0, 0, none, 0, 0, [], [], 4, rfl, ⟨Nums.nil _, Nums.nil _⟩, HF.out, hBB⟩
    have d16i : decide ((16 : Int) < (dl : Int)) = false := decide_eq_false (by omega)
    go_wp2_with fail
    refine (refFrom_any n _ _ _ _ _ hPn).mono ?_
    rintro e w6 ⟨ea, el, ec, rfl, hFr, hb6⟩
    obtain ⟨t, ht⟩ : ∃ t, t = fromN n ps := ⟨_, rfl⟩
    rw [← ht] at HW
    rw [← ht]
    replace hDn := hDn.below hb6
    replace hR := hR.below hb6
    have hB6 := hB5.trans (hb6.mono hB5.size)
    have HF : Hid (ToldF (makeFF n xs ys) X Y t (fromL ps) ds 0) := ToldF.good (by rw [HMk.out, if_pos (by omega)]) HW.out HD.out
    have hBB := put3_below hB6 hgr (.bool t) (.slice ea el ec) (.slice da dl dc)
    have e1 := Nums.put3 hR hFr (.bool t) (.slice ea el ec) (.slice da dl dc)
    have e2 := Nums.put3 hR hDn (.bool t) (.slice ea el ec) (.slice da dl dc)
    obtain ⟨r0, r1, r2, f0, f1, f2⟩ := hR
    clear ht HMk HD HW hPn hDn hFr hB5 hb6 hB6
    go_wp2_with fail
    exact bodyPost_ret (v := .tuple #[.agg #[.bool t, .slice ea el ec, .slice da dl dc], .int .i64 0]) (by simp [results, Try.results18, go_sem, r0, r1, r2]) rfl ⟨t, ea, el, ec, da, dl, dc, _, ds, 0, rfl, ⟨e1, e2⟩, HF.out, hBB⟩
end Go.Proofs.Ytchmlfjjgehbkaa

namespace Go.Proofs.Ytchmlfjjgehbkaa
open Go.RowKit

/-- The cells of a whole number's variable. -/
structure Cell2 (w : World) (g : Nat) (p : Bool) (a : Option Addr) (l c : Nat) : Prop where
  c0 : w.cell? ⟨g, 0, none⟩ = some (.bool p)
  c1 : w.cell? ⟨g, 1, none⟩ = some (.slice a l c)
  f0 : w.frozen? ⟨g, 0, none⟩ = false
  f1 : w.frozen? ⟨g, 1, none⟩ = false
theorem Cell2.lt {w : World} {g : Nat} {p : Bool} {a : Option Addr} {l c : Nat} (h : Cell2 w g p a l c) : g < w.heap.size := World.block_lt_of_cell? _ _ h.c0
theorem Cell2.below {w w' : World} {g : Nat} {p : Bool} {a : Option Addr} {l c : Nat} (h : Cell2 w g p a l c) (hb : Below w.heap.size w w') : Cell2 w' g p a l c :=
  ⟨bkeep hb h.c0 rfl, bkeep hb h.c1 rfl, ((bcell hb).2 _ _ h.lt).trans h.f0, ((bcell hb).2 _ _ h.lt).trans h.f1⟩
theorem Cell2.new (w : World) (p : Bool) (a : Option Addr) (l c : Nat) : Cell2 (w.alloc (.cells #[.bool p, .slice a l c] 28)) w.heap.size p a l c :=
  ⟨by simp, by simp, by simp, by simp⟩
theorem Cell3.lt {w : World} {g : Nat} {p : Bool} {a b : Option Addr} {l c l' c' : Nat} (h : Cell3 w g p a l c b l' c') : g < w.heap.size := World.block_lt_of_cell? _ _ h.c0
/-- Of a whole number by a number, both far from the limit. -/
theorem prod_16 {x : Int} {v : Nat} (hx : (x.natAbs : Int) < 18446744073709551616 ^ 16) (hv : ((v : Nat) : Int) < 18446744073709551616 ^ 16) : ((x * (v : Int)).natAbs : Int) < 18446744073709551616 ^ 32 := by
  rw [Int.natAbs_mul, Int.natCast_mul]
  have e : (18446744073709551616 : Int) ^ 32 = 18446744073709551616 ^ 16 * 18446744073709551616 ^ 16 := by decide
  rw [e]
  have h1 : ((v : Int).natAbs : Int) = (v : Int) := by simp
  rw [h1]
  rcases Nat.eq_zero_or_pos v with c | c
  · subst c
    simp
  · exact Int.lt_of_lt_of_le (Int.mul_lt_mul_of_pos_right hx (by omega)) (Int.mul_le_mul_of_nonneg_left (by omega) (by decide))

theorem put3_cell {w : World} {g g' i : Nat} (h : g' ≠ g) (x y z : Value) : (((w.setCell ⟨g, 0, none⟩ x).setCell ⟨g, 1, none⟩ y).setCell ⟨g, 2, none⟩ z).cell? ⟨g', i, none⟩ = w.cell? ⟨g', i, none⟩ := by
  rw [World.cell?_setCell_other, put2_other h]
  intro e; cases e; exact h rfl
theorem Cell3.put {w : World} {g : Nat} {p : Bool} {a b : Option Addr} {l c l' c' : Nat} (h : Cell3 w g p a l c b l' c') (q : Bool) (d e : Option Addr) (m k m' k' : Nat) :
    Cell3 (((w.setCell ⟨g, 0, none⟩ (.bool q)).setCell ⟨g, 1, none⟩ (.slice d m k)).setCell ⟨g, 2, none⟩ (.slice e m' k')) g q d m k e m' k' := by
  obtain ⟨h0, h1, h2, f0, f1, f2⟩ := h
  refine ⟨?_, ?_, ?_, by simp [f0], by simp [f1], by simp [f2]⟩
  · rw [World.cell?_setCell_other, World.cell?_setCell_other]
    · exact World.cell?_setCell_same _ _ _ h0
    · simp
    · simp
  · rw [World.cell?_setCell_other]
    · refine World.cell?_setCell_same (u := .slice a l c) _ _ _ ?_
      rw [World.cell?_setCell_other]
      · exact h1
      · simp
    · simp
  · refine World.cell?_setCell_same (u := .slice b l' c') _ _ _ ?_
    rw [World.cell?_setCell_other, World.cell?_setCell_other]
    · exact h2
    · simp
    · simp
theorem Cell3.other {w : World} {g g' : Nat} {p : Bool} {a b : Option Addr} {l c l' c' : Nat} (h : Cell3 w g' p a l c b l' c') (hne : g' ≠ g) (x y z : Value) :
    Cell3 (((w.setCell ⟨g, 0, none⟩ x).setCell ⟨g, 1, none⟩ y).setCell ⟨g, 2, none⟩ z) g' p a l c b l' c' := by
  obtain ⟨h0, h1, h2, f0, f1, f2⟩ := h
  exact ⟨(put3_cell hne _ _ _).trans h0, (put3_cell hne _ _ _).trans h1, (put3_cell hne _ _ _).trans h2, by simp [f0], by simp [f1], by simp [f2]⟩
end Go.Proofs.Ytchmlfjjgehbkaa

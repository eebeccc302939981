/-
  The contract of modint.divisorOf.
-/
import Derived.Test.YtpeefhkadeoioaaEucA
import Derived.Test.YtpeefhkadeoioaaModB
import Derived.Deep.LoopGhost
import Derived.Deep.CutRange
import Derived.Deep.RegionWith
import Derived.BigRegion
namespace Go.Proofs.Ytpeefhkadeoioaa
open Go.RowKit

theorem fromD {ns : List Int} (h : rightB ns = true) : fromL ns = ns ∧ fromN false ns = false := by
  have := right_from h false
  rw [Bool.false_and] at this
  exact this
theorem rightD {ns : List Int} (h : rightB ns = true) : rightI false ns = true := by simp [rightI, h]
theorem bfactsD {W w1 : World} (hb : Below W.heap.size W w1) : (∀ b o, b < W.heap.size → w1.cell? ⟨b, o, none⟩ = W.cell? ⟨b, o, none⟩) ∧ (∀ b o, b < W.heap.size → w1.frozen? ⟨b, o, none⟩ = W.frozen? ⟨b, o, none⟩) ∧ ∀ b, b < W.heap.size → b < w1.heap.size :=
  ⟨(bcell hb).1, (bcell hb).2, fun _ h => Nat.lt_of_lt_of_le h hb.size⟩
theorem Nums.growD {w : World} {a : Option Addr} {n c : Nat} {L : List Int} (h : Nums w a n c L) (o : Obj) : Nums (w.alloc o) a n c L := h.below ((Below.refl _ _).alloc (Nat.le_refl _) o)
theorem Nums.drawD {w : World} {a : Option Addr} {n c : Nat} {L : List Int} (h : Nums w a n c L) : Nums w.drew a n c L := h.alike (fun _ => rfl)
theorem bgrowD {V w : World} (h : Below V.heap.size V w) (o : Obj) : Below V.heap.size V (w.alloc o) := h.alloc h.size o
theorem bdrawD {V w : World} (h : Below V.heap.size V w) : Below V.heap.size V w.drew := ⟨h.os, h.tape, h.output, h.size, h.block⟩

theorem DPre.below {w w' : World} {ga gb g6 g7 : Nat} {n a G : Int} {k : Nat} (h : DPre w ga gb g6 g7 n a G k) (hb : Below w.heap.size w w') : DPre w' ga gb g6 g7 n a G k := by
  obtain ⟨xa, xn, xc, xs, ya, yn, yc, ys, s, t, E, ⟨hx, hy⟩, hr, ⟨f6, f7⟩, rest⟩ := h
  exact ⟨xa, xn, xc, xs, ya, yn, yc, ys, s, t, E.below hb, ⟨hx.below hb, hy.below hb⟩, hr, ⟨f6.below hb, f7.below hb⟩, rest⟩

/-- The result's cell. -/
def Cell5 (w : World) (g : Nat) : Prop := (w.cell? ⟨g, 0, none⟩ = some (.bool false) ∧ w.cell? ⟨g, 1, none⟩ = some (.slice none 0 0)) ∧ w.frozen? ⟨g, 0, none⟩ = false ∧ w.frozen? ⟨g, 1, none⟩ = false
theorem Cell5.below {w w' : World} {g : Nat} (h : Cell5 w g) (hb : Below w.heap.size w w') : Cell5 w' g :=
  ⟨⟨bkeep hb h.1.1 rfl, bkeep hb h.1.2 rfl⟩, (hb.frozen (p := ⟨g, 0, none⟩) (World.block_lt_of_cell? _ _ h.1.1)).trans h.2.1, (hb.frozen (p := ⟨g, 1, none⟩) (World.block_lt_of_cell? _ _ h.1.2)).trans h.2.2⟩

theorem fac_alloc {w : World} {p : Bool} {a : Option Addr} {n c : Nat} {L : List Int} {v : Int} (h : Nums w a n c L) (hr : rightI p L = true) (hv : iv p L = v) : Fac (w.alloc (.cells #[.bool p, .slice a n c] 45)) w.heap.size v :=
  ⟨p, a, n, c, L, ⟨by simp, by simp⟩, ⟨by simp, by simp⟩, h.growD _, hr, hv⟩
theorem fac_put {w : World} {g : Nat} {q p : Bool} {sa a : Option Addr} {sn sc n c : Nat} {L : List Int} {v : Int} (c0 : w.cell? ⟨g, 0, none⟩ = some (.bool q)) (c1 : w.cell? ⟨g, 1, none⟩ = some (.slice sa sn sc)) (f0 : w.frozen? ⟨g, 0, none⟩ = false) (f1 : w.frozen? ⟨g, 1, none⟩ = false) (h : Nums w a n c L) (hr : rightI p L = true) (hv : iv p L = v) :
    Fac ((w.setCell ⟨g, 0, none⟩ (.bool p)).setCell ⟨g, 1, none⟩ (.slice a n c)) g v := by
  refine ⟨p, a, n, c, L, ⟨?_, ?_⟩, ⟨by simp [f0], by simp [f1]⟩, h.put2 c0 c1 _ _, hr, hv⟩
  · rw [World.cell?_setCell_other _ _ _ _ (by intro e; cases e)]; exact World.cell?_setCell_same _ _ _ c0
  · refine World.cell?_setCell_same _ _ _ (u := .slice sa sn sc) ?_; rw [World.cell?_setCell_other _ _ _ _ (by intro e; cases e)]; exact c1

theorem put4_other {w : World} {g g' h i : Nat} (h1 : h ≠ g) (h2 : h ≠ g') (x y x' y' : Value) : ((((w.setCell ⟨g, 0, none⟩ x).setCell ⟨g, 1, none⟩ y).setCell ⟨g', 0, none⟩ x').setCell ⟨g', 1, none⟩ y').cell? ⟨h, i, none⟩ = w.cell? ⟨h, i, none⟩ :=
  (put2_other h2 _ _).trans (put2_other h1 _ _)

/-- The two factors are laid one on. -/
theorem dswap {U : World} {g6 g7 : Nat} (hne : g7 ≠ g6) {s t s' : Int} (F6 : Fac U g6 s) {tp : Bool} {ta : Option Addr} {tn tc : Nat} {tl : List Int} (d0 : U.cell? ⟨g7, 0, none⟩ = some (.bool tp)) (d1 : U.cell? ⟨g7, 1, none⟩ = some (.slice ta tn tc)) (e0 : U.frozen? ⟨g7, 0, none⟩ = false) (e1 : U.frozen? ⟨g7, 1, none⟩ = false) (hT : Nums U ta tn tc tl) (rT : rightI tp tl = true) (vT : iv tp tl = t)
    {sp : Bool} {sa : Option Addr} {sn sc : Nat} {sl : List Int} (hS : Nums U sa sn sc sl) (rS : rightI sp sl = true) (vS : iv sp sl = s') :
    (Fac ((((U.setCell ⟨g6, 0, none⟩ (.bool tp)).setCell ⟨g6, 1, none⟩ (.slice ta tn tc)).setCell ⟨g7, 0, none⟩ (.bool sp)).setCell ⟨g7, 1, none⟩ (.slice sa sn sc)) g6 t ∧ Fac ((((U.setCell ⟨g6, 0, none⟩ (.bool tp)).setCell ⟨g6, 1, none⟩ (.slice ta tn tc)).setCell ⟨g7, 0, none⟩ (.bool sp)).setCell ⟨g7, 1, none⟩ (.slice sa sn sc)) g7 s') ∧
    (∀ a n c L, Nums U a n c L → Nums ((((U.setCell ⟨g6, 0, none⟩ (.bool tp)).setCell ⟨g6, 1, none⟩ (.slice ta tn tc)).setCell ⟨g7, 0, none⟩ (.bool sp)).setCell ⟨g7, 1, none⟩ (.slice sa sn sc)) a n c L) ∧
    (∀ ga gb xa xn xc ya yn yc, ga ≠ g6 → ga ≠ g7 → gb ≠ g6 → gb ≠ g7 → EucAt U ga gb xa xn xc ya yn yc → EucAt ((((U.setCell ⟨g6, 0, none⟩ (.bool tp)).setCell ⟨g6, 1, none⟩ (.slice ta tn tc)).setCell ⟨g7, 0, none⟩ (.bool sp)).setCell ⟨g7, 1, none⟩ (.slice sa sn sc)) ga gb xa xn xc ya yn yc) ∧
    ∀ g5, g5 ≠ g6 → g5 ≠ g7 → Cell5 U g5 → Cell5 ((((U.setCell ⟨g6, 0, none⟩ (.bool tp)).setCell ⟨g6, 1, none⟩ (.slice ta tn tc)).setCell ⟨g7, 0, none⟩ (.bool sp)).setCell ⟨g7, 1, none⟩ (.slice sa sn sc)) g5 := by
  obtain ⟨p, a, n, c, L, ⟨c0, c1⟩, ⟨f0, f1⟩, hn, hr, hv⟩ := F6
  obtain ⟨⟨x0, x1⟩, y0, y1⟩ := put4_cells hne c0 c1 d0 d1 (.bool tp) (.slice ta tn tc) (.bool sp) (.slice sa sn sc)
  refine ⟨⟨⟨tp, ta, tn, tc, tl, ⟨x0, x1⟩, ⟨by simp [f0], by simp [f1]⟩, hT.put4 hne c0 c1 d0 d1 _ _ _ _, rT, vT⟩, ⟨sp, sa, sn, sc, sl, ⟨y0, y1⟩, ⟨by simp [e0], by simp [e1]⟩, hS.put4 hne c0 c1 d0 d1 _ _ _ _, rS, vS⟩⟩, ?_, ?_, ?_⟩
  · intro a n c L hn
    exact hn.put4 hne c0 c1 d0 d1 _ _ _ _
  · intro ga gb xa xn xc ya yn yc h1 h2 h3 h4 E
    exact ⟨E.ne, (put4_other h1 h2 _ _ _ _).trans E.a, (put4_other h3 h4 _ _ _ _).trans E.b, by simp [E.fa], by simp [E.fb]⟩
  · intro g5 h1 h2 hC
    exact ⟨⟨(put4_other h1 h2 _ _ _ _).trans hC.1.1, (put4_other h1 h2 _ _ _ _).trans hC.1.2⟩, by simp [hC.2.1], by simp [hC.2.2]⟩

theorem facs_made {v1 : World} {oa ob : Option Addr} {on om oc od : Nat} (h0 : Nums v1 oa on oc (ofZ (sz 0))) (h1 : Nums v1 ob om od (ofZ (sz 1))) :
    Fac ((v1.alloc (.cells #[.bool false, .slice oa on oc] 45)).alloc (.cells #[.bool false, .slice ob om od] 45)) v1.heap.size 0 ∧
    Fac ((v1.alloc (.cells #[.bool false, .slice oa on oc] 45)).alloc (.cells #[.bool false, .slice ob om od] 45)) (v1.heap.size + 1) 1 := by
  have hB := ((Below.refl v1.heap.size v1).alloc (Nat.le_refl _) (.cells #[.bool false, .slice oa on oc] 45)).alloc (by simp) (.cells #[.bool false, .slice ob om od] 45)
  obtain ⟨⟨c0, c1⟩, ⟨d0, d1⟩, ⟨f0, f1⟩, g0, g1⟩ := held22 (Below.refl ((v1.alloc (.cells #[.bool false, .slice oa on oc] 45)).alloc (.cells #[.bool false, .slice ob om od] 45)).heap.size ((v1.alloc (.cells #[.bool false, .slice oa on oc] 45)).alloc (.cells #[.bool false, .slice ob om od] 45)))
  exact ⟨⟨false, _, _, _, _, ⟨c0, c1⟩, ⟨f0, f1⟩, h0.below hB, by decide, by decide⟩, ⟨false, _, _, _, _, ⟨d0, d1⟩, ⟨g0, g1⟩, h1.below hB, by decide, by decide⟩⟩

end Go.Proofs.Ytpeefhkadeoioaa

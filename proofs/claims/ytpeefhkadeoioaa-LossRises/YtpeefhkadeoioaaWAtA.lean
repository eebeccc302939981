/-
  A whole number's sign and limbs, as a call handed them back.
  Two variables of whole numbers that a statement makes, in whatever order.
-/
import Derived.Test.YtpeefhkadeoioaaF7A
import Derived.Test.YtpeefhkadeoioaaDivOf
namespace Go.Proofs.Ytpeefhkadeoioaa
open Go.RowKit

/-- A whole number's sign and limbs, as a call handed them back. -/
def WAt (w : World) (n : Bool) (a : Option Addr) (l c : Nat) (x : Int) : Prop := ∃ xs, Nums w a l c xs ∧ IsW n xs x
theorem WAt.below {w w' : World} {n : Bool} {a : Option Addr} {l c : Nat} {x : Int} (h : WAt w n a l c x) (hb : Below w.heap.size w w') : WAt w' n a l c x := by
  obtain ⟨xs, h1, h2⟩ := h
  exact ⟨xs, h1.below hb, h2⟩
theorem WAt.drew {w : World} {n : Bool} {a : Option Addr} {l c : Nat} {x : Int} (h : WAt w n a l c x) : WAt w.drew n a l c x := by
  obtain ⟨xs, h1, h2⟩ := h
  exact ⟨xs, h1.drawD, h2⟩
theorem WAt.grow {w : World} {n : Bool} {a : Option Addr} {l c : Nat} {x : Int} (h : WAt w n a l c x) (o : Obj) : WAt (w.alloc o) n a l c x := by
  obtain ⟨xs, h1, h2⟩ := h
  exact ⟨xs, h1.growD o, h2⟩
end Go.Proofs.Ytpeefhkadeoioaa

namespace Go.Proofs.Ytpeefhkadeoioaa
open Go.RowKit

theorem put2_below7 {B : Nat} {a w : World} (h : Below B a w) {g : Nat} (hg : B ≤ g) (x y : Value) : Below B a ((w.setCell ⟨g, 0, none⟩ x).setCell ⟨g, 1, none⟩ y) :=
  (h.setCell (p := ⟨g, 0, none⟩) hg x).setCell (p := ⟨g, 1, none⟩) hg y
theorem fac_keep7 {w : World} {g g' : Nat} (hne : g' ≠ g) {q : Bool} {sa : Option Addr} {sn sc : Nat} {v : Int} (c0 : w.cell? ⟨g, 0, none⟩ = some (.bool q)) (c1 : w.cell? ⟨g, 1, none⟩ = some (.slice sa sn sc)) (h : Fac w g' v) (x y : Value) : Fac ((w.setCell ⟨g, 0, none⟩ x).setCell ⟨g, 1, none⟩ y) g' v := by
  obtain ⟨p, a, n, c, L, ⟨e0, e1⟩, ⟨f0, f1⟩, hn, hr, hv⟩ := h
  exact ⟨p, a, n, c, L, ⟨(put2_other hne _ _).trans e0, (put2_other hne _ _).trans e1⟩, ⟨by simp [f0], by simp [f1]⟩, hn.put2 c0 c1 _ _, hr, hv⟩

/-- Two new variables hold x and y. -/
def Two7 (v : World) (x y : Int) (p12 p13 : Value) (wx : World) : Prop := ∃ g1 g2, p12 = .pointer (some ⟨g1, 0, none⟩) ∧ p13 = .pointer (some ⟨g2, 0, none⟩) ∧ Fac wx g1 x ∧ Fac wx g2 y ∧ Below v.heap.size v wx
theorem two_a {v w : World} {x y : Int} {q r : Bool} {qa ra : Option Addr} {qn qc rn rc : Nat} {qs rs : List Int} (hQ : Nums w qa qn qc qs) (hq : IsW q qs x) (hR : Nums w ra rn rc rs) (hr : IsW r rs y) (hb : Below v.heap.size v w) :
    Two7 v x y (.pointer (some ⟨w.heap.size, 0, none⟩)) (.pointer (some ⟨w.heap.size + 1, 0, none⟩)) ((w.alloc (.cells #[.bool q, .slice qa qn qc] 45)).alloc (.cells #[.bool r, .slice ra rn rc] 45)) := by
  have h1 := fac_alloc hQ hq.2.1 hq.2.2
  have h2 := fac_alloc (hR.growD (.cells #[.bool q, .slice qa qn qc] 45)) hr.2.1 hr.2.2
  rw [World.size_alloc] at h2
  exact ⟨_, _, rfl, rfl, h1.below ((Below.refl _ _).alloc (Nat.le_refl _) _), h2, bgrowD (bgrowD hb _) _⟩
theorem two_b {v w : World} {x y : Int} {q r : Bool} {qa ra : Option Addr} {qn qc rn rc : Nat} {qs rs : List Int} (hQ : Nums w qa qn qc qs) (hq : IsW q qs x) (hR : Nums w ra rn rc rs) (hr : IsW r rs y) (hb : Below v.heap.size v w) :
    Two7 v x y (.pointer (some ⟨w.heap.size + 1, 0, none⟩)) (.pointer (some ⟨w.heap.size, 0, none⟩)) ((w.alloc (.cells #[.bool r, .slice ra rn rc] 45)).alloc (.cells #[.bool q, .slice qa qn qc] 45)) := by
  obtain ⟨g1, g2, e1, e2, f1, f2, hb'⟩ := two_a hR hr hQ hq hb
  exact ⟨g2, g1, e2, e1, f2, f1, hb'⟩
theorem two_c {v w : World} {x y : Int} {q r p : Bool} {qa ra sa : Option Addr} {qn qc rn rc sn sc g : Nat} {qs rs : List Int} (hQ : Nums w qa qn qc qs) (hq : IsW q qs x) (hR : Nums w ra rn rc rs) (hr : IsW r rs y) (hb : Below v.heap.size v w)
    (c0 : w.cell? ⟨g, 0, none⟩ = some (.bool p)) (c1 : w.cell? ⟨g, 1, none⟩ = some (.slice sa sn sc)) (f0 : w.frozen? ⟨g, 0, none⟩ = false) (f1 : w.frozen? ⟨g, 1, none⟩ = false) (hg : v.heap.size ≤ g) :
    Two7 v x y (.pointer (some ⟨g, 0, none⟩)) (.pointer (some ⟨w.heap.size, 0, none⟩)) (((w.setCell ⟨g, 0, none⟩ (.bool q)).setCell ⟨g, 1, none⟩ (.slice qa qn qc)).alloc (.cells #[.bool r, .slice ra rn rc] 45)) := by
  have h1 := fac_put c0 c1 f0 f1 hQ hq.2.1 hq.2.2
  have h2 := fac_alloc (hR.put2 c0 c1 (.bool q) (.slice qa qn qc)) hr.2.1 hr.2.2
  have e : ((w.setCell ⟨g, 0, none⟩ (.bool q)).setCell ⟨g, 1, none⟩ (.slice qa qn qc)).heap.size = w.heap.size := by simp
  rw [e] at h2
  exact ⟨_, _, rfl, rfl, h1.below ((Below.refl _ _).alloc (Nat.le_refl _) _), h2, bgrowD (put2_below7 hb hg _ _) _⟩
theorem two_d {v w : World} {x y : Int} {q r p : Bool} {qa ra sa : Option Addr} {qn qc rn rc sn sc g : Nat} {qs rs : List Int} (hQ : Nums w qa qn qc qs) (hq : IsW q qs x) (hR : Nums w ra rn rc rs) (hr : IsW r rs y) (hb : Below v.heap.size v w)
    (c0 : w.cell? ⟨g, 0, none⟩ = some (.bool p)) (c1 : w.cell? ⟨g, 1, none⟩ = some (.slice sa sn sc)) (f0 : w.frozen? ⟨g, 0, none⟩ = false) (f1 : w.frozen? ⟨g, 1, none⟩ = false) (hg : v.heap.size ≤ g) :
    Two7 v x y (.pointer (some ⟨w.heap.size, 0, none⟩)) (.pointer (some ⟨g, 0, none⟩)) (((w.setCell ⟨g, 0, none⟩ (.bool r)).setCell ⟨g, 1, none⟩ (.slice ra rn rc)).alloc (.cells #[.bool q, .slice qa qn qc] 45)) := by
  obtain ⟨g1, g2, e1, e2, f1, f2, hb'⟩ := two_c hR hr hQ hq hb c0 c1 f0 f1 hg
  exact ⟨g2, g1, e2, e1, f2, f1, hb'⟩
theorem two_e {v w : World} {x y : Int} {q r p p' : Bool} {qa ra sa sa' : Option Addr} {qn qc rn rc sn sc sn' sc' g g' : Nat} {qs rs : List Int} (hQ : Nums w qa qn qc qs) (hq : IsW q qs x) (hR : Nums w ra rn rc rs) (hr : IsW r rs y) (hb : Below v.heap.size v w)
    (c0 : w.cell? ⟨g, 0, none⟩ = some (.bool p)) (c1 : w.cell? ⟨g, 1, none⟩ = some (.slice sa sn sc)) (f0 : w.frozen? ⟨g, 0, none⟩ = false) (f1 : w.frozen? ⟨g, 1, none⟩ = false) (hg : v.heap.size ≤ g)
    (d0 : w.cell? ⟨g', 0, none⟩ = some (.bool p')) (d1 : w.cell? ⟨g', 1, none⟩ = some (.slice sa' sn' sc')) (e0 : w.frozen? ⟨g', 0, none⟩ = false) (e1 : w.frozen? ⟨g', 1, none⟩ = false) (hg' : v.heap.size ≤ g') (hne : g' ≠ g) :
    Two7 v x y (.pointer (some ⟨g, 0, none⟩)) (.pointer (some ⟨g', 0, none⟩)) ((((w.setCell ⟨g, 0, none⟩ (.bool q)).setCell ⟨g, 1, none⟩ (.slice qa qn qc)).setCell ⟨g', 0, none⟩ (.bool r)).setCell ⟨g', 1, none⟩ (.slice ra rn rc)) := by
  have h1 := fac_put c0 c1 f0 f1 hQ hq.2.1 hq.2.2
  have k0 := (put2_other hne (.bool q) (.slice qa qn qc)).trans d0
  have k1 := (put2_other hne (.bool q) (.slice qa qn qc)).trans d1
  have h2 := fac_put k0 k1 (by simp [e0]) (by simp [e1]) (hR.put2 c0 c1 (.bool q) (.slice qa qn qc)) hr.2.1 hr.2.2
  exact ⟨_, _, rfl, rfl, fac_keep7 (Ne.symm hne) k0 k1 h1 _ _, h2, put2_below7 (put2_below7 hb hg _ _) hg' _ _⟩
end Go.Proofs.Ytpeefhkadeoioaa

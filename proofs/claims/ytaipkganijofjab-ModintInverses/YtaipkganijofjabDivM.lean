/-
  What stands in memory while modint.divisorOf goes Euclid's steps; one step.
-/
import Derived.Test.YtaipkganijofjabEuc
namespace Go.Proofs.Ytaipkganijofjab
open Go.RowKit

/-- A variable in block g holds the whole number v. -/
def Fac (w : World) (g : Nat) (v : Int) : Prop :=
  ∃ p a n c L, (w.cell? ⟨g, 0, none⟩ = some (.bool p) ∧ w.cell? ⟨g, 1, none⟩ = some (.slice a n c)) ∧ (w.frozen? ⟨g, 0, none⟩ = false ∧ w.frozen? ⟨g, 1, none⟩ = false) ∧ Nums w a n c L ∧ rightI p L = true ∧ iv p L = v

theorem Fac.below {w w' : World} {g : Nat} {v : Int} (h : Fac w g v) (hb : Below w.heap.size w w') : Fac w' g v := by
  obtain ⟨p, a, n, c, L, ⟨c0, c1⟩, ⟨f0, f1⟩, hn, hr, hv⟩ := h
  exact ⟨p, a, n, c, L, ⟨bkeep hb c0 rfl, bkeep hb c1 rfl⟩, ⟨(hb.frozen (p := ⟨g, 0, none⟩) (World.block_lt_of_cell? _ _ c0)).trans f0, (hb.frozen (p := ⟨g, 1, none⟩) (World.block_lt_of_cell? _ _ c1)).trans f1⟩, hn.below hb, hr, hv⟩

theorem Fac.step {w w' : World} {g ga gb : Nat} {v : Int} (h : Fac w g v) (hs : StepKept w w' ga gb) (h1 : g ≠ ga) (h2 : g ≠ gb) : Fac w' g v := by
  obtain ⟨p, a, n, c, L, ⟨c0, c1⟩, ⟨f0, f1⟩, hn, hr, hv⟩ := h
  exact ⟨p, a, n, c, L, ⟨hs.cell _ _ _ h1 h2 c0, hs.cell _ _ _ h1 h2 c1⟩, ⟨(hs.frozen _ _ _ h1 h2 c0).trans f0, (hs.frozen _ _ _ h1 h2 c1).trans f1⟩, hs.nums _ _ _ _ hn, hr, hv⟩

/-- Ahead of a step: two numbers, and their factors. -/
def DPre (w : World) (ga gb g6 g7 : Nat) (n a G : Int) (k : Nat) : Prop :=
  ∃ xa xn xc xs ya yn yc ys s t, EucAt w ga gb xa xn xc ya yn yc ∧ (Nums w xa xn xc xs ∧ Nums w ya yn yc ys) ∧ (rightB xs = true ∧ rightB ys = true) ∧ (Fac w g6 s ∧ Fac w g7 t) ∧
    Bez n a (val 18446744073709551616 xs) (val 18446744073709551616 ys) s t ∧ gz (val 18446744073709551616 xs) (val 18446744073709551616 ys) = G ∧ (val 18446744073709551616 ys).toNat = k

/-- Behind a step that goes on: its quotient is told. -/
def DOn (w : World) (ga gb g6 g7 : Nat) (n a G : Int) (k : Nat) (ta : Option Addr) (tn tc : Nat) : Prop :=
  ∃ xa xn xc xs ya yn yc ys qs s t, EucAt w ga gb xa xn xc ya yn yc ∧ (Nums w xa xn xc xs ∧ Nums w ya yn yc ys ∧ Nums w ta tn tc qs) ∧ (rightB xs = true ∧ rightB ys = true ∧ rightB qs = true) ∧ (Fac w g6 s ∧ Fac w g7 t) ∧
    (0 < val 18446744073709551616 xs ∧ val 18446744073709551616 ys < val 18446744073709551616 xs) ∧ Bez n a (val 18446744073709551616 qs * val 18446744073709551616 xs + val 18446744073709551616 ys) (val 18446744073709551616 xs) s t ∧
    gz (val 18446744073709551616 xs) (val 18446744073709551616 ys) = G ∧ (val 18446744073709551616 ys).toNat = k

/-- Behind the last one: the divisor is told. -/
def DEnd (w : World) (g6 : Nat) (n a G : Int) (ta : Option Addr) (tn tc : Nat) : Prop :=
  ∃ L s, Nums w ta tn tc L ∧ rightB L = true ∧ val 18446744073709551616 L = G ∧ Fac w g6 s ∧ (a * s - G) % n = 0

theorem dstep_any (ga gb g6 g7 : Nat) (n a G : Int) (k : Nat) (w : World) (B : Nat) (h : DPre w ga gb g6 g7 n a G k) (hBa : B ≤ ga) (hBb : B ≤ gb) (h6 : g6 ≠ ga ∧ g6 ≠ gb) (h7 : g7 ≠ ga ∧ g7 ≠ gb) :
    Calls Try.prog 59 #[.pointer (some ⟨gb, 0, none⟩), .pointer (some ⟨ga, 0, none⟩)] w fun e w' => ∃ ta tn tc m, e = .returned (.tuple #[.slice ta tn tc, .bool m]) ∧
      (m = false → DEnd w' g6 n a G ta tn tc) ∧ (m = true → ∃ k', k' < k ∧ DOn w' ga gb g6 g7 n a G k' ta tn tc) ∧
      (∀ b o v, b ≠ ga → b ≠ gb → w.cell? ⟨b, o, none⟩ = some v → w'.cell? ⟨b, o, none⟩ = some v ∧ w'.frozen? ⟨b, o, none⟩ = w.frozen? ⟨b, o, none⟩) ∧ Below B w w' := by
  obtain ⟨xa, xn, xc, xs, ya, yn, yc, ys, s, t, E, ⟨hx, hy⟩, ⟨rx, ry⟩, ⟨f6, f7⟩, hbz, hG, hk⟩ := h
  have nx := val_nonneg (B := 18446744073709551616) (by decide) hx.digs
  have ny := val_nonneg (B := 18446744073709551616) (by decide) hy.digs
  refine (step_any ga gb xa xn xc xs ya yn yc ys w B E hx hy rx ry hBa hBb).mono ?_
  rintro e w' (⟨h0, rfl, rfl⟩ | ⟨h0, qa, qn, qc, qs, ra, rn, rc, rs, rfl, E', hq, hr, ⟨⟨rq, rr⟩, vq, vr⟩, hs, hb⟩)
  · have e : ys = [] := List.eq_nil_of_length_eq_zero (by have := hy.hlen; omega)
    subst e
    rw [val_nil, gz_zero nx] at hG
    refine ⟨xa, xn, xc, false, rfl, fun _ => ⟨xs, s, hx, rx, hG, f6, by rw [← hG]; exact hbz.first⟩, (fun h => by cases h), fun b o v _ _ hc => ⟨hc, rfl⟩, Below.refl _ _⟩
  · have hp := right_pos hy.digs ry (by have := hy.hlen; omega)
    have hlt := Int.emod_lt_of_pos (val 18446744073709551616 xs) hp
    have hnn := Int.emod_nonneg (val 18446744073709551616 xs) (show val 18446744073709551616 ys ≠ 0 by omega)
    have hm := Int.mul_ediv_add_emod (val 18446744073709551616 xs) (val 18446744073709551616 ys)
    refine ⟨qa, qn, qc, true, rfl, (fun h => by cases h), fun _ => ⟨(val 18446744073709551616 rs).toNat, by rw [vr, ← hk]; omega, ya, yn, yc, ys, ra, rn, rc, rs, qs, s, t, E', ⟨hs.nums _ _ _ _ hy, hr, hq⟩, ⟨ry, rr, rq⟩, ⟨f6.step hs h6.1 h6.2, f7.step hs h7.1 h7.2⟩, ⟨hp, by rw [vr]; exact hlt⟩, ?_, ?_, rfl⟩, fun b o v h1 h2 hc => ⟨hs.cell _ _ _ h1 h2 hc, hs.frozen _ _ _ h1 h2 hc⟩, hb⟩
    · rw [vq, vr, Int.mul_comm, hm]; exact hbz
    · rw [vr, gz_step nx ny, hG]

/-- One round: the factors of the next pair. -/
theorem don_math {n a : Int} {q x y s t : Int} (hq : 0 ≤ q) (hx : 0 < x) (hy : 0 ≤ y ∧ y < x) (h : Bez n a (q * x + y) x s t) : Bez n a x y t (s - q * t) ∧ sz (q * t) ≤ n ∧ sz (s - q * t) ≤ n := by
  have e1 : (q * x + y) / x = q := by rw [Int.add_comm, Int.add_mul_ediv_right _ _ (by omega), Int.ediv_eq_zero_of_lt hy.1 hy.2, Int.zero_add]
  have e2 : (q * x + y) % x = y := by rw [Int.add_comm, Int.add_mul_emod_self_right, Int.emod_eq_of_lt hy.1 hy.2]
  have := h.step (Int.add_nonneg (Int.mul_nonneg hq (by omega)) hy.1) hx
  rw [e1, e2] at this
  exact this

theorem ResW.fits {v n : Int} {p : Bool} {ls : List Int} {e : Int} (h : ResW v p ls e) (hv : sz v ≤ n) (hn : n < 18446744073709551616 ^ 64) : e = 0 ∧ iv p ls = v ∧ rightI p ls = true := by
  obtain ⟨rfl, -⟩ := res_fits h.1 (by omega)
  obtain ⟨h1, h2, -⟩ := h.got
  exact ⟨rfl, h1, h2⟩
end Go.Proofs.Ytaipkganijofjab

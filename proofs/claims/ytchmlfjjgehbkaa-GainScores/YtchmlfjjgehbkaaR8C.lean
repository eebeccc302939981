/-
  The contract of the document's over.
  What is told of two fractions' sum, difference and product; contracts of the document's Add and Mul.
  The contract of the document's Cmp of fractions.
  The contract of the document's Floor of a fraction.
  The contract of the document's Sub of fractions.
  Fractions: order turns nothing, what is added and subtracted is gone, the order is the difference's sign.
  What stage 8's laws ask of the program's functions; the contracts of few and awake.
-/
import Derived.Test.YtchmlfjjgehbkaaR8P
import Derived.Test.YtchmlfjjgehbkaaModR
import Derived.Deep.RegionWith
import Derived.Deep.RegionHeld3
import Derived.BigRegion
import Derived.Test.YtchmlfjjgehbkaaRefA
import Derived.Test.YtchmlfjjgehbkaaNatA
import Derived.Laws.NewBlocks
namespace Go.Proofs.Ytchmlfjjgehbkaa
open Go.RowKit

end Go.Proofs.Ytchmlfjjgehbkaa

namespace Go.Proofs.Ytchmlfjjgehbkaa
open Go.RowKit

/-- What is told of a reckoning with two fractions: a fault, or none. -/
def arF (n : Bool) (xs ys : List Int) (m : Bool) (us vs : List Int) (T : Int) (D : Nat) : Option Int := if rightF n xs ys && rightF m us vs then makF T D else some 1
def addT (n : Bool) (xs ys : List Int) (m : Bool) (us vs : List Int) : Int := iv n xs * (nv vs : Int) + iv m us * (nv ys : Int)
def subT (n : Bool) (xs ys : List Int) (m : Bool) (us vs : List Int) : Int := iv n xs * (nv vs : Int) - iv m us * (nv ys : Int)
def mulT (n : Bool) (xs : List Int) (m : Bool) (us : List Int) : Int := iv n xs * iv m us
theorem make_isW {n : Bool} {xs ys : List Int} {X : Int} {Y : Nat} (hW : IsW n xs X) (hN : IsN ys Y) : makeFF n xs ys = makF X Y ∧ numF (iv n xs) (nv ys) = numF X Y ∧ denF (iv n xs) (nv ys) = denF X Y := by
  have e1 := hW.2.2
  have e2 := hN.nv
  refine ⟨?_, by rw [e1, e2], by rw [e1, e2]⟩
  unfold makeFF
  rw [hW.2.1, hN.2.1, e1, e2]
  rfl
theorem den_16 {y v : Nat} (hy : ((y : Nat) : Int) < 18446744073709551616 ^ 16) (hv : ((v : Nat) : Int) < 18446744073709551616 ^ 16) : ((y * v : Nat) : Int) < 18446744073709551616 ^ 64 := by
  have h := prod_16 (x := (y : Int)) (v := v) (by simpa using hy) hv
  have e : (((y : Int) * (v : Int)).natAbs : Int) = ((y * v : Nat) : Int) := by
    rw [← Int.natCast_mul, Int.natAbs_natCast]
  rw [e] at h
  have h2 : (18446744073709551616 : Int) ^ 32 < 18446744073709551616 ^ 64 := by decide
  omega

end Go.Proofs.Ytchmlfjjgehbkaa

namespace Go.Proofs.Ytchmlfjjgehbkaa
open Go.RowKit

/-- Which one of two fractions is the greater one. -/
def cmpFF (n : Bool) (xs ys : List Int) (m : Bool) (us vs : List Int) : Int := if rightF n xs ys && rightF m us vs then cmpZ (iv n xs * (nv vs : Int)) (iv m us * (nv ys : Int)) else 0

end Go.Proofs.Ytchmlfjjgehbkaa

namespace Go.Proofs.Ytchmlfjjgehbkaa
open Go.RowKit

/-- What is told of the greatest whole number not above a fraction: a fault, or none. -/
def flF (n : Bool) (xs ys : List Int) : Option Int := if rightF n xs ys then none else some 1

end Go.Proofs.Ytchmlfjjgehbkaa

namespace Go.Proofs.Ytchmlfjjgehbkaa
open Go.RowKit

theorem put3_other {w : World} {g g' i : Nat} (h : g' ≠ g) (x y z : Value) : (((w.setCell ⟨g, 0, none⟩ x).setCell ⟨g, 1, none⟩ y).setCell ⟨g, 2, none⟩ z).cell? ⟨g', i, none⟩ = w.cell? ⟨g', i, none⟩ := by
  rw [World.cell?_setCell_other, put2_other h]
  intro e; cases e; exact h rfl
/-- The opposite of a fraction that may be may be. -/
theorem rightF_neg {m : Bool} {us vs : List Int} (hd : Digs 18446744073709551616 us) (h : rightF m us vs = true) : rightF (negN m us) (negL m us) vs = true ∧ iv (negN m us) (negL m us) = -iv m us := by
  obtain ⟨h1, h2, h3, h4, h5, h6⟩ := (rightF_iff m us vs).1 h
  have e1 : negL m us = us := by simp [negL, h1]
  have hp := nv_pos hd ((rightI_iff m us).1 h1).1
  have hz : us.length = 0 → val 18446744073709551616 us = 0 := fun e => by rw [List.eq_nil_of_length_eq_zero e]; rfl
  refine ⟨(rightF_iff _ _ _).2 ⟨?_, h2, h3, h4, by rw [e1]; exact h5, by rw [e1]; exact h6⟩, ?_⟩
  · refine (rightI_iff _ _).2 ⟨by rw [e1]; exact ((rightI_iff m us).1 h1).1, fun e => ?_⟩
    rw [e1]
    unfold negN at e
    simp at e
    omega
  · rw [e1]
    unfold negN iv
    rw [h1]
    by_cases e : us.length = 0
    · have := hz e
      cases m <;> simp [e, this]
    · have : 0 < us.length := by omega
      cases m <;> simp [this]
theorem sub_add {n : Bool} {xs ys : List Int} {m : Bool} {us vs : List Int} (hd : Digs 18446744073709551616 us) (h : rightF m us vs = true) : arF n xs ys (negN m us) (negL m us) vs (addT n xs ys (negN m us) (negL m us) vs) (nv ys * nv vs) = arF n xs ys m us vs (subT n xs ys m us vs) (nv ys * nv vs) ∧ addT n xs ys (negN m us) (negL m us) vs = subT n xs ys m us vs := by
  obtain ⟨h1, h2⟩ := rightF_neg hd h
  have e : addT n xs ys (negN m us) (negL m us) vs = subT n xs ys m us vs := by
    unfold addT subT
    rw [h2, Int.neg_mul]
    omega
  refine ⟨?_, e⟩
  rw [e]
  unfold arF
  rw [h1, h]

theorem keep6 {w : World} {G g : Nat} {p0 p1 p2 p3 p4 p5 : Option Value} (h0 : G ≠ g) (h1 : G + 1 ≠ g) (x y z : Value)
    (h : w.cell? ⟨G, 0, none⟩ = p0 ∧ w.cell? ⟨G, 1, none⟩ = p1 ∧ w.cell? ⟨G, 2, none⟩ = p2 ∧ w.cell? ⟨G + 1, 0, none⟩ = p3 ∧ w.cell? ⟨G + 1, 1, none⟩ = p4 ∧ w.cell? ⟨G + 1, 2, none⟩ = p5) :
    (((w.setCell ⟨g, 0, none⟩ x).setCell ⟨g, 1, none⟩ y).setCell ⟨g, 2, none⟩ z).cell? ⟨G, 0, none⟩ = p0 ∧ (((w.setCell ⟨g, 0, none⟩ x).setCell ⟨g, 1, none⟩ y).setCell ⟨g, 2, none⟩ z).cell? ⟨G, 1, none⟩ = p1 ∧ (((w.setCell ⟨g, 0, none⟩ x).setCell ⟨g, 1, none⟩ y).setCell ⟨g, 2, none⟩ z).cell? ⟨G, 2, none⟩ = p2 ∧ (((w.setCell ⟨g, 0, none⟩ x).setCell ⟨g, 1, none⟩ y).setCell ⟨g, 2, none⟩ z).cell? ⟨G + 1, 0, none⟩ = p3 ∧ (((w.setCell ⟨g, 0, none⟩ x).setCell ⟨g, 1, none⟩ y).setCell ⟨g, 2, none⟩ z).cell? ⟨G + 1, 1, none⟩ = p4 ∧ (((w.setCell ⟨g, 0, none⟩ x).setCell ⟨g, 1, none⟩ y).setCell ⟨g, 2, none⟩ z).cell? ⟨G + 1, 2, none⟩ = p5 :=
  ⟨(put3_other h0 x y z).trans h.1, (put3_other h0 x y z).trans h.2.1, (put3_other h0 x y z).trans h.2.2.1, (put3_other h1 x y z).trans h.2.2.2.1, (put3_other h1 x y z).trans h.2.2.2.2.1, (put3_other h1 x y z).trans h.2.2.2.2.2⟩

end Go.Proofs.Ytchmlfjjgehbkaa

namespace Go.Proofs.Ytchmlfjjgehbkaa
open Go.RowKit

theorem ar_comm (n : Bool) (xs ys : List Int) (m : Bool) (us vs : List Int) (T : Int) (D : Nat) : arF m us vs n xs ys T D = arF n xs ys m us vs T D := by unfold arF; rw [Bool.and_comm]
theorem addT_comm (n : Bool) (xs ys : List Int) (m : Bool) (us vs : List Int) : addT m us vs n xs ys = addT n xs ys m us vs := by unfold addT; rw [Int.add_comm]
theorem mulT_comm (n : Bool) (xs : List Int) (m : Bool) (us : List Int) : mulT m us n xs = mulT n xs m us := by unfold mulT; rw [Int.mul_comm]
theorem makF_ne {T : Int} {D : Nat} {e : Int} (h : makF T D = some e) : e ≠ 0 := by
  unfold makF at h
  split at h
  · cases h; decide
  · split at h
    · cases h
    · cases h; decide
theorem arF_ne {n : Bool} {xs ys : List Int} {m : Bool} {us vs : List Int} {T : Int} {D : Nat} {e : Int} (h : arF n xs ys m us vs T D = some e) : e ≠ 0 := by
  unfold arF at h
  split at h
  · exact makF_ne h
  · cases h; decide
theorem makF_none {T : Int} {D : Nat} (h : makF T D = none) : 0 < D ∧ (numF T D).natAbs < 18446744073709551616 ^ 16 ∧ denF T D < 18446744073709551616 ^ 16 := by
  unfold makF at h
  split at h
  · cases h
  · split at h
    · rename_i h1 h2; exact ⟨by omega, h2⟩
    · cases h
theorem makF_some {T : Int} {D : Nat} (hD : 0 < D) (h1 : (numF T D).natAbs < 18446744073709551616 ^ 16) (h2 : denF T D < 18446744073709551616 ^ 16) : makF T D = none := by
  unfold makF
  rw [if_neg (by omega), if_pos ⟨h1, h2⟩]
/-- What is told without a fault. -/
theorem told_ok8 {n : Bool} {xs ys : List Int} {m : Bool} {us vs : List Int} {T : Int} {D : Nat} {X : Int} {Y : Nat} {q : Bool} {ss rs : List Int} (h : ToldF (arF n xs ys m us vs T D) X Y q ss rs 0) : rightF n xs ys = true ∧ rightF m us vs = true ∧ makF T D = none ∧ IsW q ss X ∧ IsN rs Y := by
  rcases h with ⟨e, hf, _, h0⟩ | ⟨hf, ⟨h1, h2⟩, _⟩
  · exact absurd h0.symm (arF_ne hf)
  · unfold arF at hf
    cases hr : rightF n xs ys with
    | false => rw [hr] at hf; cases hf
    | true =>
      cases hr' : rightF m us vs with
      | false => rw [hr', Bool.and_false] at hf; cases hf
      | true => rw [hr, hr'] at hf; exact ⟨rfl, rfl, hf, h1, h2⟩
theorem right_of8 {n : Bool} {xs ys : List Int} {X : Int} {Y : Nat} (hW : IsW n xs X) (hN : IsN ys Y) (hx : X.natAbs < 18446744073709551616 ^ 16) (hy : Y < 18446744073709551616 ^ 16) (h0 : 0 < Y) (hg : Nat.gcd X.natAbs Y = 1) : rightF n xs ys = true := by
  have hm := hW.mag
  refine (rightF_iff n xs ys).2 ⟨hW.2.1, hN.2.1, hN.pos h0, (len_16 hN).2 hy, (len_16 hm).2 hx, ?_⟩
  rw [hm.nv, hN.nv]
  exact hg
theorem pow16c : ((18446744073709551616 ^ 16 : Nat) : Int) = 18446744073709551616 ^ 16 := by decide

/-- The sum less b is a. -/
theorem back_sub {x u : Int} {y v : Nat} (hy : 0 < y) (hv : 0 < v) (hg : Nat.gcd x.natAbs y = 1) :
    numF (numF (x * (v : Int) + u * (y : Int)) (y * v) * (v : Int) - u * (denF (x * (v : Int) + u * (y : Int)) (y * v) : Int)) (denF (x * (v : Int) + u * (y : Int)) (y * v) * v) = x ∧
      denF (numF (x * (v : Int) + u * (y : Int)) (y * v) * (v : Int) - u * (denF (x * (v : Int) + u * (y : Int)) (y * v) : Int)) (denF (x * (v : Int) + u * (y : Int)) (y * v) * v) = y := by
  have hD : 0 < y * v := Nat.mul_pos hy hv
  obtain ⟨T, hT⟩ : ∃ T, T = x * (v : Int) + u * (y : Int) := ⟨_, rfl⟩
  rw [← hT]
  have h1 := gF_num T (y * v)
  have h2 := gF_den T (y * v)
  have hYp := den_pos (x := T) hD
  obtain ⟨X, hX⟩ : ∃ X, X = numF T (y * v) := ⟨_, rfl⟩
  obtain ⟨Y, hY⟩ : ∃ Y, Y = denF T (y * v) := ⟨_, rfl⟩
  obtain ⟨g, hgg⟩ : ∃ g, g = gF T (y * v) := ⟨_, rfl⟩
  have hgp := gF_pos (x := T) hD
  rw [← hX, ← hgg] at h1
  rw [← hY, ← hgg] at h2
  rw [← hY] at hYp
  rw [← hgg] at hgp
  rw [← hX, ← hY]
  refine low_of (Nat.mul_pos hYp hv) hy hg ?_
  -- (X v - u Y) y = x (Y v), times g: (T v - u (y v)) y = x (y v) v
  refine Int.eq_of_mul_eq_mul_right (a := (g : Int)) (by omega) ?_
  have h2' : (Y : Int) * (g : Int) = (y : Int) * (v : Int) := by rw [← Int.natCast_mul, h2, Int.natCast_mul]
  have e1 : (X * (v : Int) - u * (Y : Int)) * (y : Int) * (g : Int) = (X * (g : Int) * (v : Int) - u * ((Y : Int) * (g : Int))) * (y : Int) := by
    rw [Int.sub_mul, Int.sub_mul, Int.sub_mul]
    congr 1
    · simp only [Int.mul_assoc, Int.mul_comm, Int.mul_left_comm]
    · simp only [Int.mul_assoc, Int.mul_comm, Int.mul_left_comm]
  have e2 : x * ((Y * v : Nat) : Int) * (g : Int) = x * ((Y : Int) * (g : Int)) * (v : Int) := by
    rw [Int.natCast_mul]
    simp only [Int.mul_assoc, Int.mul_comm, Int.mul_left_comm]
  rw [e1, e2, h1, h2', hT, Int.add_mul, Int.sub_mul, Int.add_mul]
  simp only [Int.mul_assoc, Int.mul_comm, Int.mul_left_comm]
  omega

theorem cmp_sign {P Q X : Int} (h1 : X < 0 ↔ P - Q < 0) (h2 : X = 0 ↔ P - Q = 0) : cmpZ P Q = if X = 0 then 0 else if X < 0 then -1 else 1 := by
  unfold cmpZ
  by_cases a : P < Q
  · have h3 : X < 0 := h1.2 (by omega)
    have h4 : ¬ X = 0 := by omega
    rw [if_pos a, if_neg h4, if_pos h3]
  · rw [if_neg a]
    by_cases b : Q < P
    · have h3 : ¬ X < 0 := fun k => by have := h1.1 k; omega
      have h4 : ¬ X = 0 := fun k => by have := h2.1 k; omega
      rw [if_pos b, if_neg h4, if_neg h3]
    · have h4 : X = 0 := h2.2 (by omega)
      rw [if_neg b, if_pos h4]
theorem IsW.empty {n : Bool} {xs : List Int} {X : Int} (h : IsW n xs X) : xs.length = 0 ↔ X = 0 := by
  have hm := h.mag
  have := nv_pos hm.1 hm.2.1
  rw [hm.nv] at this
  omega
end Go.Proofs.Ytchmlfjjgehbkaa

namespace Go.Proofs.Ytchmlfjjgehbkaa
open Go.RowKit

/-- The program's answers on fractions. -/
def MakOk8 : Prop := ∀ (n : Bool) (a b : Option Addr) (la ca lb cb : Nat) (xs ys : List Int) (w : World), Nums w a la ca xs → Nums w b lb cb ys → Calls Try.prog 31 #[.agg #[.bool n, .slice a la ca], .slice b lb cb] w fun e w' => FracT (makeFF n xs ys) (numF (iv n xs) (nv ys)) (denF (iv n xs) (nv ys)) w e w'
def RgtOk8 : Prop := ∀ (n : Bool) (a b : Option Addr) (la ca lb cb : Nat) (xs ys : List Int) (w : World), Nums w a la ca xs → Nums w b lb cb ys → Calls Try.prog 41 #[.agg #[.bool n, .slice a la ca, .slice b lb cb]] w fun e w' => e = .returned (.bool (rightF n xs ys)) ∧ Below w.heap.size w w'
def CmpOk8 : Prop := ∀ (n m : Bool) (a b c d : Option Addr) (la ca lb cb lc cc ld cd : Nat) (xs ys us vs : List Int) (w : World), Nums w a la ca xs → Nums w b lb cb ys → Nums w c lc cc us → Nums w d ld cd vs → Calls Try.prog 28 #[.agg #[.bool n, .slice a la ca, .slice b lb cb], .agg #[.bool m, .slice c lc cc, .slice d ld cd]] w fun e w' => e = .returned (.int .i64 (cmpFF n xs ys m us vs)) ∧ Below w.heap.size w w'
def AddOk8 : Prop := ∀ (n m : Bool) (a b c d : Option Addr) (la ca lb cb lc cc ld cd : Nat) (xs ys us vs : List Int) (w : World), Nums w a la ca xs → Nums w b lb cb ys → Nums w c lc cc us → Nums w d ld cd vs → Calls Try.prog 45 #[.agg #[.bool n, .slice a la ca, .slice b lb cb], .agg #[.bool m, .slice c lc cc, .slice d ld cd]] w fun e w' => FracT (arF n xs ys m us vs (addT n xs ys m us vs) (nv ys * nv vs)) (numF (addT n xs ys m us vs) (nv ys * nv vs)) (denF (addT n xs ys m us vs) (nv ys * nv vs)) w e w'
def SubOk8 : Prop := ∀ (n m : Bool) (a b c d : Option Addr) (la ca lb cb lc cc ld cd : Nat) (xs ys us vs : List Int) (w : World), Nums w a la ca xs → Nums w b lb cb ys → Nums w c lc cc us → Nums w d ld cd vs → Calls Try.prog 22 #[.agg #[.bool n, .slice a la ca, .slice b lb cb], .agg #[.bool m, .slice c lc cc, .slice d ld cd]] w fun e w' => FracT (arF n xs ys m us vs (subT n xs ys m us vs) (nv ys * nv vs)) (numF (subT n xs ys m us vs) (nv ys * nv vs)) (denF (subT n xs ys m us vs) (nv ys * nv vs)) w e w'
/-- A call tells yes or no, and leaves the world alone. -/
def AnyB (w : World) (e : Ending) (w' : World) : Prop := ∃ q, e = .returned (.bool q) ∧ w' = w

theorem awake8_told {n : Bool} {us vs : List Int} {err : Int} (h : ToldF (makeFF false [6] [4]) (numF (iv false [6]) (nv [4])) (denF (iv false [6]) (nv [4])) n us vs err) : (n = false ∧ us = [3] ∧ vs = [2]) ∧ err = 0 := by
  have hf : makeFF false [6] [4] = none := by decide +kernel
  have hx : numF (iv false [6]) (nv [4]) = 3 := by decide +kernel
  have hy : denF (iv false [6]) (nv [4]) = 2 := by decide +kernel
  rw [hf, hx, hy] at h
  rcases h with ⟨e, h, _⟩ | ⟨_, ⟨h1, h2⟩, rfl⟩
  · cases h
  · obtain ⟨rfl, rfl⟩ := h1.unique (m := false) (ys := [3]) ⟨fun y hy => by simp at hy; subst hy; decide, by decide, by simp [iv, val]⟩
    obtain rfl := h2.unique (ks := [2]) ⟨fun y hy => by simp at hy; subst hy; decide, by decide, by simp [val]⟩
    exact ⟨⟨rfl, rfl, rfl⟩, rfl⟩

theorem r8same_eq (n : Bool) (a b c d : Option Addr) (la ca lb cb lc cc ld cd : Nat) (xs ys : List Int) (w : World) (h1 : Nums w a la ca xs) (h2 : Nums w b lb cb ys) (h3 : Nums w c lc cc xs) (h4 : Nums w d ld cd ys) :
    Calls Try.prog 9 #[.agg #[.bool n, .slice a la ca, .slice b lb cb], .agg #[.bool n, .slice c lc cc, .slice d ld cd]] w fun e w' => e = .returned (.bool true) ∧ Below w.heap.size w w' := by
  refine (r8same_any n n _ _ _ _ _ _ _ _ _ _ _ _ _ _ _ _ w h1 h2 h3 h4).mono ?_
  rintro e w' ⟨rfl, hb⟩
  rw [sameB_self, sameB_self]
  exact ⟨by simp, hb⟩
end Go.Proofs.Ytchmlfjjgehbkaa

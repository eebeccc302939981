/-
  The contract of modint.Gcd.
-/
import Derived.Test.YtnbdbahfekneoaaGreatEucA
import Derived.Deep.LoopGhost
namespace Go.Proofs.YtnbdbahfekneoaaGreat
open Go.RowKit

/-- Euclid's steps stand at two numbers whose greatest common divisor is G, the second at most k. -/
def EucOn (w : World) (ga gb : Nat) (G : Int) (k : Nat) : Prop :=
  ∃ xa xn xc xs ya yn yc ys, EucAt w ga gb xa xn xc ya yn yc ∧ (Nums w xa xn xc xs ∧ Nums w ya yn yc ys) ∧ (rightB xs = true ∧ rightB ys = true) ∧ gz (val 18446744073709551616 xs) (val 18446744073709551616 ys) = G ∧ (val 18446744073709551616 ys).toNat = k

/-- Where they end: the greatest common divisor. -/
def GcdIs (w : World) (a : Option Addr) (n c : Nat) (G : Int) : Prop := ∃ L, Nums w a n c L ∧ rightB L = true ∧ val 18446744073709551616 L = G

/-- A step from there. -/
theorem stepOn_any (ga gb : Nat) (G : Int) (k : Nat) (w : World) (B : Nat) (h : EucOn w ga gb G k) (hBa : B ≤ ga) (hBb : B ≤ gb) :
    Calls Tryz.prog 144 #[.pointer (some ⟨gb, 0, none⟩), .pointer (some ⟨ga, 0, none⟩)] w fun e w' =>
      (∃ ta tn tc, e = .returned (.tuple #[.slice ta tn tc, .bool false]) ∧ GcdIs w' ta tn tc G ∧ Below B w w') ∨
      (∃ ta tn tc k', e = .returned (.tuple #[.slice ta tn tc, .bool true]) ∧ EucOn w' ga gb G k' ∧ k' < k ∧ Below B w w') := by
  obtain ⟨xa, xn, xc, xs, ya, yn, yc, ys, E, ⟨hx, hy⟩, ⟨rx, ry⟩, hG, hk⟩ := h
  have nx := val_nonneg (B := 18446744073709551616) (by decide) hx.digs
  have ny := val_nonneg (B := 18446744073709551616) (by decide) hy.digs
  refine (step_any ga gb xa xn xc xs ya yn yc ys w B E hx hy rx ry hBa hBb).mono ?_
  rintro e w' (⟨h0, rfl, rfl⟩ | ⟨h0, qa, qn, qc, qs, ra, rn, rc, rs, rfl, E', hq, hr, ⟨⟨rq, rr⟩, vq, vr⟩, hs, hb⟩)
  · left
    have e : ys = [] := List.eq_nil_of_length_eq_zero (by have := hy.hlen; omega)
    subst e
    rw [val_nil, gz_zero nx] at hG
    exact ⟨xa, xn, xc, rfl, ⟨xs, hx, rx, hG⟩, Below.refl _ _⟩
  · right
    have hp := right_pos hy.digs ry (by have := hy.hlen; omega)
    have hlt := Int.emod_lt_of_pos (val 18446744073709551616 xs) hp
    have hnn := Int.emod_nonneg (val 18446744073709551616 xs) (show val 18446744073709551616 ys ≠ 0 by omega)
    refine ⟨qa, qn, qc, (val 18446744073709551616 rs).toNat, rfl, ⟨ya, yn, yc, ys, ra, rn, rc, rs, E', ⟨hs.nums _ _ _ _ hy, hr⟩, ⟨ry, rr⟩, ?_, rfl⟩, ?_, hb⟩
    · rw [vr, gz_step nx ny, hG]
    · rw [vr, ← hk]; omega

set_option maxHeartbeats 1000000 in
theorem gcd_any (a b : Option Addr) (la ca lb cb : Nat) (zs ys : List Int) (w : World) (h : Nums w a la ca zs) (h' : Nums w b lb cb ys) :
    Calls Tryz.prog 84 #[.slice a la ca, .slice b lb cb] w fun e w' => ∃ a' n' c' ls err, e = .returned (.tuple #[.slice a' n' c', .int .i64 err]) ∧ Nums w' a' n' c' ls ∧ ResGcd zs ys ls err ∧ Below w.heap.size w w' := by
  cases hr : rightB zs with
  | false =>
    go_enter Tryz.func84, Tryz.ntmps84
    go_wp2_with fail
    refine (right_any _ _ _ _ _ h).mono ?_
    rintro e w' ⟨rfl, rfl⟩
    rw [hr]
    go_wp2_with fail
    go_ret2
    exact ⟨none, 0, 0, [], 1, rfl, Nums.nil _, by simp [ResGcd, hr], Below.refl _ _⟩
  | true =>
  cases hr' : rightB ys with
  | false =>
    go_enter Tryz.func84, Tryz.ntmps84
    go_wp2_with fail
    refine (right_any _ _ _ _ _ h).mono ?_
    rintro e w' ⟨rfl, rfl⟩
    rw [hr]
    go_wp2_with fail
    refine (right_any _ _ _ _ _ h').mono ?_
    rintro e w' ⟨rfl, rfl⟩
    rw [hr']
    go_wp2_with fail
    go_ret2
    exact ⟨none, 0, 0, [], 1, rfl, Nums.nil _, by simp [ResGcd, hr'], Below.refl _ _⟩
  | true =>
    go_enter Tryz.func84, Tryz.ntmps84
    go_wp2_with fail
    refine (right_any _ _ _ _ _ h).mono ?_
    rintro e w' ⟨rfl, rfl⟩
    rw [hr]
    go_wp2_with fail
    refine (right_any _ _ _ _ _ h').mono ?_
    rintro e w0 ⟨rfl, rfl⟩
    rw [hr']
    go_wp2_with fail
    refine (euclid_any _ _ _ _ _ _ _).mono ?_
    rintro e w1 ⟨ga, gb, rfl, ⟨hga, hgb⟩, E, hb1⟩
    obtain ⟨G, hG⟩ : ∃ G, G = gz (val 18446744073709551616 zs) (val 18446744073709551616 ys) := ⟨_, rfl⟩
    have HG : Hid (G = gz (val 18446744073709551616 zs) (val 18446744073709551616 ys)) := hG
    have hon : EucOn w1 ga gb G (val 18446744073709551616 ys).toNat := ⟨a, la, ca, zs, b, lb, cb, ys, E, ⟨h.below hb1, h'.below hb1⟩, ⟨hr, hr'⟩, hG.symm, rfl⟩
    generalize (val 18446744073709551616 ys).toNat = k0 at hon
    clear hG E h h'
    go_wp2_with fail
    refine (stepOn_any ga gb G k0 w1 w0.heap.size hon hga hgb).mono ?_
    rintro e w2 hst
    have hst2 : ∃ ta tn tc m, e = .returned (.tuple #[.slice ta tn tc, .bool m]) ∧ (m = false → GcdIs w2 ta tn tc G) ∧ (m = true → ∃ k, EucOn w2 ga gb G k) ∧ Below w0.heap.size w0 w2 := by
      rcases hst with ⟨ta, tn, tc, rfl, hg, hb⟩ | ⟨ta, tn, tc, k', rfl, ho, -, hb⟩
      · exact ⟨ta, tn, tc, false, rfl, fun _ => hg, (fun h => by cases h), hb1.trans hb⟩
      · exact ⟨ta, tn, tc, true, rfl, (fun h => by cases h), fun _ => ⟨k', ho⟩, hb1.trans hb⟩
    obtain ⟨ta, tn, tc, m, rfl, hm1, hm2, hb2⟩ := hst2
    obtain ⟨k1, hk1⟩ : ∃ k1, m = true → EucOn w2 ga gb G k1 := by
      cases m with
      | false => exact ⟨0, (fun h => by cases h)⟩
      | true => obtain ⟨k, hk⟩ := hm2 rfl; exact ⟨k, fun _ => hk⟩
    have HM1 := (show Hid _ from And.intro hm1 hk1)
    clear hst hm1 hm2 hk1 hb1 hon
    go_wp2_with fail
    go_loopg [7, 8] (k1 + 2) (fun k tv mv wr => ∃ ta tn tc m, tv = .slice ta tn tc ∧ mv = .bool m ∧ (m = false → GcdIs wr ta tn tc G) ∧ (m = true → ∃ k', k' + 1 < k ∧ EucOn wr ga gb G k') ∧ Below w0.heap.size w0 wr)
    case atStart => exact ⟨ta, tn, tc, m, rfl, rfl, HM1.out.1, fun h => ⟨k1, by omega, HM1.out.2 h⟩, hb2⟩
    case round =>
      clear HM1 hb2
      obtain ⟨ta, tn, tc, m, rfl, rfl, hm1, hm2, hbr⟩ := hrel
      cases m with
      | true =>
        obtain ⟨k', hk', ho⟩ := hm2 rfl
        clear hm1 hm2
        go_wp2_with fail
        refine (stepOn_any ga gb G k' wr w0.heap.size ho hga hgb).mono ?_
        rintro e w3 (⟨ta, tn, tc, rfl, hg, hb⟩ | ⟨ta, tn, tc, k'', rfl, ho', hlt, hb⟩)
        · have hB := hbr.trans hb
          clear ho hbr hb
          go_wp2_with fail
          go_roundg 0
          case measure => omega
          case rel => exact ⟨ta, tn, tc, false, rfl, rfl, fun _ => hg, (fun h => by cases h), hB⟩
        · have hB := hbr.trans hb
          clear ho hbr hb
          go_wp2_with fail
          go_roundg (k'' + 2)
          case measure => omega
          case rel => exact ⟨ta, tn, tc, true, rfl, rfl, (fun h => by cases h), fun _ => ⟨k'', by omega, ho'⟩, hB⟩
      | false =>
        obtain ⟨L, hL, rL, vL⟩ := hm1 rfl
        have hll := right_len rL
        have hln := hL.hlen
        have HV : Hid (val 18446744073709551616 L = G) := vL
        have htn : tn ≤ 64 := by omega
        clear hm1 hm2 vL hll hln
        go_wp2_with fail
        refine (clone_any _ _ _ _ _ hL (by omega)).mono ?_
        rintro e w3 ⟨a', n', c', rfl, hn, -, hb3⟩
        have hB := hbr.trans (hb3.mono hbr.size)
        have hdL := hn.digs
        clear hbr hb3 hL
        go_wp2_with fail
        go_ret2
        refine ⟨_, _, _, L, _, rfl, hn, ?_, hB⟩
        simp only [ResGcd, hr, hr', Bool.and_self, if_true]
        exact ⟨trivial, hdL, rL, HV.out.trans HG.out⟩
end Go.Proofs.YtnbdbahfekneoaaGreat

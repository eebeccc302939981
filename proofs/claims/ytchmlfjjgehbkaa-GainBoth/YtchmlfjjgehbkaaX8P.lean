/-
  The contract of modint.Gcd.
  Contracts of package rational's wholeOf, fits, common, mayBe and lowest.
  Contracts of package rational's Right and Make.
-/
import Derived.Test.YtchmlfjjgehbkaaEucA
import Derived.Deep.LoopGhost
import Derived.Test.YtchmlfjjgehbkaaR8P
import Derived.Test.YtchmlfjjgehbkaaNatE
import Derived.Laws.NewBlocks
import Derived.Test.YtchmlfjjgehbkaaR8C
import Derived.Deep.RegionWith
import Derived.Deep.RegionHeld3
import Derived.BigRegion
namespace Go.Proofs.Ytchmlfjjgehbkaa
open Go.RowKit

/-- Euclid's steps stand at two numbers whose greatest common divisor is G, the second at most k. -/
def EucOn (w : World) (ga gb : Nat) (G : Int) (k : Nat) : Prop :=
  ∃ xa xn xc xs ya yn yc ys, EucAt w ga gb xa xn xc ya yn yc ∧ (Nums w xa xn xc xs ∧ Nums w ya yn yc ys) ∧ (rightB xs = true ∧ rightB ys = true) ∧ gz (val 18446744073709551616 xs) (val 18446744073709551616 ys) = G ∧ (val 18446744073709551616 ys).toNat = k

/-- Where they end: the greatest common divisor. -/
def GcdIs (w : World) (a : Option Addr) (n c : Nat) (G : Int) : Prop := ∃ L, Nums w a n c L ∧ rightB L = true ∧ val 18446744073709551616 L = G

/-- A step from there. -/
theorem stepOn_any (ga gb : Nat) (G : Int) (k : Nat) (w : World) (B : Nat) (h : EucOn w ga gb G k) (hBa : B ≤ ga) (hBb : B ≤ gb) :
    Calls Try.prog 102 #[.pointer (some ⟨gb, 0, none⟩), .pointer (some ⟨ga, 0, none⟩)] w fun e w' =>
      (∃ ta tn tc, e = .returned (.tuple #[.slice ta tn tc, .bool false]) ∧ GcdIs w' ta tn tc G ∧ Below B w w') ∨
      (∃ ta tn tc k', e = .returned (.tuple #[.slice ta tn tc, .bool true]) ∧ EucOn w' ga gb G k' ∧ k' < k ∧ Below B w w') := by
  obtain ⟨xa, xn, xc, xs, ya, yn, yc, ys, E, ⟨hx, hy⟩, ⟨rx, ry⟩, hG, hk⟩ := h
  have nx := val_nonneg (B := 18446744073709551616) (by decide) hx.digs
  have ny := val_nonneg (B := 18446744073709551616) (by decide) hy.digs
  refine (step_any ga gb xa xn xc xs ya yn yc ys w B E hx hy rx ry hBa hBb).mono ?_
  rintro e w' (⟨h0, rfl, rfl⟩ | ⟨h0, qa, qn, qc, qs, ra, rn, rc, rs, rfl, E', hq, hr, ⟨⟨rq, rr⟩, vq, vr⟩, hs, hb⟩)
  · left
    have e : ys = [] := List.eq_nil_of_length_eq_zero (by have := hy.hlen; omega)
    subst e
    rw [val_nil, gz_zero nx] at hG
    exact ⟨xa, xn, xc, rfl, ⟨xs, hx, rx, hG⟩, Below.refl _ _⟩
  · right
    have hp := right_pos hy.digs ry (by have := hy.hlen; omega)
    have hlt := Int.emod_lt_of_pos (val 18446744073709551616 xs) hp
    have hnn := Int.emod_nonneg (val 18446744073709551616 xs) (show val 18446744073709551616 ys ≠ 0 by omega)
    refine ⟨qa, qn, qc, (val 18446744073709551616 rs).toNat, rfl, ⟨ya, yn, yc, ys, ra, rn, rc, rs, E', ⟨hs.nums _ _ _ _ hy, hr⟩, ⟨ry, rr⟩, ?_, rfl⟩, ?_, hb⟩
    · rw [vr, gz_step nx ny, hG]
    · rw [vr, ← hk]; omega

set_option maxHeartbeats 1000000 in
theorem gcd_any (a b : Option Addr) (la ca lb cb : Nat) (zs ys : List Int) (w : World) (h : Nums w a la ca zs) (h' : Nums w b lb cb ys) :
    Calls Try.prog 75 #[.slice a la ca, .slice b lb cb] w fun e w' => ∃ a' n' c' ls err, e = .returned (.tuple #[.slice a' n' c', .int .i64 err]) ∧ Nums w' a' n' c' ls ∧ ResGcd zs ys ls err ∧ Below w.heap.size w w' := by
  cases hr : rightB zs with
  | false =>
    go_enter Try.func75, Try.ntmps75
    go_wp2_with fail
    refine (right_any _ _ _ _ _ h).mono ?_
    rintro e w' ⟨rfl, rfl⟩
    rw [hr]
    go_wp2_with fail
    go_ret2
    exact ⟨none, 0, 0, [], 1, rfl, Nums.nil _, by simp [ResGcd, hr], Below.refl _ _⟩
  | true =>
  cases hr' : rightB ys with
  | false =>
    go_enter Try.func75, Try.ntmps75
    go_wp2_with fail
    refine (right_any _ _ _ _ _ h).mono ?_
    rintro e w' ⟨rfl, rfl⟩
    rw [hr]
    go_wp2_with fail
    refine (right_any _ _ _ _ _ h').mono ?_
    rintro e w' ⟨rfl, rfl⟩
    rw [hr']
    go_wp2_with fail
    go_ret2
    exact ⟨none, 0, 0, [], 1, rfl, Nums.nil _, by simp [ResGcd, hr'], Below.refl _ _⟩
  | true =>
    go_enter Try.func75, Try.ntmps75
    go_wp2_with fail
    refine (right_any _ _ _ _ _ h).mono ?_
    rintro e w' ⟨rfl, rfl⟩
    rw [hr]
    go_wp2_with fail
    refine (right_any _ _ _ _ _ h').mono ?_
    rintro e w0 ⟨rfl, rfl⟩
    rw [hr']
    go_wp2_with fail
    refine (euclid_any _ _ _ _ _ _ _).mono ?_
    rintro e w1 ⟨ga, gb, rfl, ⟨hga, hgb⟩, E, hb1⟩
    obtain ⟨G, hG⟩ : ∃ G, G = gz (val 18446744073709551616 zs) (val 18446744073709551616 ys) := ⟨_, rfl⟩
    have HG : Hid (G = gz (val 18446744073709551616 zs) (val 18446744073709551616 ys)) := hG
    have hon : EucOn w1 ga gb G (val 18446744073709551616 ys).toNat := ⟨a, la, ca, zs, b, lb, cb, ys, E, ⟨h.below hb1, h'.below hb1⟩, ⟨hr, hr'⟩, hG.symm, rfl⟩
    generalize (val 18446744073709551616 ys).toNat = k0 at hon
    clear hG E h h'
    go_wp2_with fail
    refine (stepOn_any ga gb G k0 w1 w0.heap.size hon hga hgb).mono ?_
    rintro e w2 hst
    have hst2 : ∃ ta tn tc m, e = .returned (.tuple #[.slice ta tn tc, .bool m]) ∧ (m = false → GcdIs w2 ta tn tc G) ∧ (m = true → ∃ k, EucOn w2 ga gb G k) ∧ Below w0.heap.size w0 w2 := by
      rcases hst with ⟨ta, tn, tc, rfl, hg, hb⟩ | ⟨ta, tn, tc, k', rfl, ho, -, hb⟩
      · exact ⟨ta, tn, tc, false, rfl, fun _ => hg, (fun h => by cases h), hb1.trans hb⟩
      · exact ⟨ta, tn, tc, true, rfl, (fun h => by cases h), fun _ => ⟨k', ho⟩, hb1.trans hb⟩
    obtain ⟨ta, tn, tc, m, rfl, hm1, hm2, hb2⟩ := hst2
    obtain ⟨k1, hk1⟩ : ∃ k1, m = true → EucOn w2 ga gb G k1 := by
      cases m with
      | false => exact ⟨0, (fun h => by cases h)⟩
      | true => obtain ⟨k, hk⟩ := hm2 rfl; exact ⟨k, fun _ => hk⟩
    have HM1 := (show Hid _ from And.intro hm1 hk1)
    clear hst hm1 hm2 hk1 hb1 hon
    go_wp2_with fail
    go_loopg [7, 8] (k1 + 2) (fun k tv mv wr => ∃ ta tn tc m, tv = .slice ta tn tc ∧ mv = .bool m ∧ (m = false → GcdIs wr ta tn tc G) ∧ (m = true → ∃ k', k' + 1 < k ∧ EucOn wr ga gb G k') ∧ Below w0.heap.size w0 wr)
    case atStart => exact ⟨ta, tn, tc, m, rfl, rfl, HM1.out.1, fun h => ⟨k1, by omega, HM1.out.2 h⟩, hb2⟩
    case round =>
      clear HM1 hb2
      obtain ⟨ta, tn, tc, m, rfl, rfl, hm1, hm2, hbr⟩ := hrel
      cases m with
      | true =>
        obtain ⟨k', hk', ho⟩ := hm2 rfl
        clear hm1 hm2
        go_wp2_with fail
        refine (stepOn_any ga gb G k' wr w0.heap.size ho hga hgb).mono ?_
        rintro e w3 (⟨ta, tn, tc, rfl, hg, hb⟩ | ⟨ta, tn, tc, k'', rfl, ho', hlt, hb⟩)
        · have hB := hbr.trans hb
          clear ho hbr hb
          go_wp2_with fail
          go_roundg 0
          case measure => omega
          case rel => exact ⟨ta, tn, tc, false, rfl, rfl, fun _ => hg, (fun h => by cases h), hB⟩
        · have hB := hbr.trans hb
          clear ho hbr hb
          go_wp2_with fail
          go_roundg (k'' + 2)
          case measure => omega
          case rel => exact ⟨ta, tn, tc, true, rfl, rfl, (fun h => by cases h), fun _ => ⟨k'', by omega, ho'⟩, hB⟩
      | false =>
        obtain ⟨L, hL, rL, vL⟩ := hm1 rfl
        have hll := right_len rL
        have hln := hL.hlen
        have HV : Hid (val 18446744073709551616 L = G) := vL
        have htn : tn ≤ 64 := by omega
        clear hm1 hm2 vL hll hln
        go_wp2_with fail
        refine (clone_any _ _ _ _ _ hL (by omega)).mono ?_
        rintro e w3 ⟨a', n', c', rfl, hn, -, hb3⟩
        have hB := hbr.trans (hb3.mono hbr.size)
        have hdL := hn.digs
        clear hbr hb3 hL
        go_wp2_with fail
        go_ret2
        refine ⟨_, _, _, L, _, rfl, hn, ?_, hB⟩
        simp only [ResGcd, hr, hr', Bool.and_self, if_true]
        exact ⟨trivial, hdL, rL, HV.out.trans HG.out⟩
end Go.Proofs.Ytchmlfjjgehbkaa

namespace Go.Proofs.Ytchmlfjjgehbkaa
open Go.RowKit

set_option maxHeartbeats 400000 in
theorem wholeOf_any (a : Option Addr) (l c : Nat) (w : World) : Calls Try.prog 52 #[.slice a l c] w fun e w' => e = .returned (.agg #[.bool false, .slice a l c]) ∧ Below w.heap.size w w' := by
  have hBB := balloc w (.cells #[.bool false, .slice a l c] 28)
  go_enter Try.func52, Try.ntmps52
  go_wp2_with fail
  exact bodyPost_ret (v := .agg #[.bool false, .slice a l c]) (by simp [results, Try.results52, go_sem]) rfl ⟨rfl, hBB⟩

def fitsB (la lb : Nat) : Bool := decide (la ≤ 16) && decide (lb ≤ 16)
set_option maxHeartbeats 400000 in
theorem fits_any (a b : Option Addr) (la ca lb cb : Nat) (w : World) (hl : la < 9223372036854775808) (hl' : lb < 9223372036854775808) : Calls Try.prog 59 #[.slice a la ca, .slice b lb cb] w fun e w' => e = .returned (.bool (fitsB la lb)) ∧ w' = w := by
  by_cases h1 : la ≤ 16
  · have h1i : (la : Int) ≤ 16 := by omega
    have HE : Hid (fitsB la lb = decide ((lb : Int) ≤ 16)) := by show _ = _; unfold fitsB; rw [decide_eq_true h1, Bool.true_and, decide_eq_decide]; omega
    go_enter Try.func59, Try.ntmps59
    go_wp2
    go_ret
    exact ⟨ret_bool HE.out.symm, rfl⟩
  · have d1 : decide ((la : Int) ≤ 16) = false := decide_eq_false (by omega)
    have HE : Hid (fitsB la lb = false) := by show _ = _; unfold fitsB; rw [decide_eq_false h1, Bool.false_and]
    go_enter Try.func59, Try.ntmps59
    go_wp2
    go_ret
    exact ⟨ret_bool HE.out.symm, rfl⟩

set_option maxHeartbeats 400000 in
theorem common_any (a b : Option Addr) (la ca lb cb : Nat) (xs ys : List Int) (x y : Nat) (w : World) (h : Nums w a la ca xs) (h' : Nums w b lb cb ys) (hx : IsN xs x) (hy : IsN ys y) :
    Calls Try.prog 61 #[.slice a la ca, .slice b lb cb] w fun e w' => ∃ ga gl gc gs, e = .returned (.slice ga gl gc) ∧ Nums w' ga gl gc gs ∧ IsN gs (Nat.gcd x y) ∧ Below w.heap.size w w' := by
  have HG := (show Hid _ from gcd_any _ _ _ _ _ _ _ _ w h h')
  clear h h'
  go_enter Try.func61, Try.ntmps61
  go_wp2_with fail
  refine Calls.mono HG.out ?_
  rintro e w1 ⟨ga, gl, gc, gs, ge, rfl, hG, hRes, hb⟩
  have hg := gcd_isN hx hy hRes
  have HH : Hid (Nums w1 ga gl gc gs ∧ IsN gs (Nat.gcd x y)) := ⟨hG, hg⟩
  clear HG hRes hG hg hx hy
  go_wp2
  go_ret
  exact ⟨ga, gl, gc, gs, rfl, HH.out.1, HH.out.2, hb⟩

/-- Whether it is so of all from k on, n of them. -/
def allB (B : Nat → Bool) : Nat → Nat → Bool
  | _, 0 => true
  | k, n + 1 => B k && allB B (k + 1) n
theorem allB_on {B : Nat → Bool} {k n : Nat} (h : B k = true) (hk : k < n) : allB B k (n - k) = allB B (k + 1) (n - (k + 1)) := by
  obtain ⟨j, hj⟩ : ∃ j, n - k = j + 1 := ⟨n - k - 1, by omega⟩
  rw [hj, show n - (k + 1) = j by omega]
  simp [allB, h]
theorem allB_off {B : Nat → Bool} {k n : Nat} (h : B k = false) (hk : k < n) : allB B k (n - k) = false := by
  obtain ⟨j, hj⟩ : ∃ j, n - k = j + 1 := ⟨n - k - 1, by omega⟩
  rw [hj]
  simp [allB, h]

set_option maxRecDepth 20000 in
set_option maxHeartbeats 1600000 in
theorem mayI_any (F b n : Nat) (N : Nat → Bool) (A : Nat → Option Addr) (Ln Cn : Nat → Nat) (B : Nat → Bool) (w : World) (hn : n ≤ 1000)
    (hE : ∀ (args : Array Value) (w : World), (callFunc F args).run Try.prog w = .ok (.enter F args) w)
    (hc : ∀ k, k < n → w.cell? ⟨b, k * 2, none⟩ = some (.bool (N k)) ∧ w.cell? ⟨b, k * 2 + 1, none⟩ = some (.slice (A k) (Ln k) (Cn k)))
    (hf : ∀ k, k < n → ∀ wx, Below w.heap.size w wx → Calls Try.prog F #[.agg #[.bool (N k), .slice (A k) (Ln k) (Cn k)]] wx fun e w' => e = .returned (.bool (B k)) ∧ Below wx.heap.size wx w') :
    Calls Try.prog 51 #[.func (.func F) #[] #[], .slice (some ⟨b, 0, none⟩) n n] w fun e w' => e = .returned (.bool (allB B 0 n)) ∧ Below w.heap.size w w' := by
  have HC : Hid (∀ k, k < n → w.cell? ⟨b, k * 2, none⟩ = some (.bool (N k)) ∧ w.cell? ⟨b, k * 2 + 1, none⟩ = some (.slice (A k) (Ln k) (Cn k))) := hc
  have HF : Hid (∀ k, k < n → ∀ wx, Below w.heap.size w wx → Calls Try.prog F #[.agg #[.bool (N k), .slice (A k) (Ln k) (Cn k)]] wx fun e w' => e = .returned (.bool (B k)) ∧ Below wx.heap.size wx w') := hf
  clear hc hf
  go_enter Try.func51, Try.ntmps51
  go_wp2
  go_loopw [9] (fun iv wr => ∃ k : Nat, k ≤ n ∧ iv = .int .i64 k ∧ Hid (allB B 0 n = allB B k (n - k)) ∧ Below w.heap.size w wr) (fun iv _ => n - (intOf iv).toNat)
  case atStart => exact ⟨0, Nat.zero_le _, rfl, (rfl : allB B 0 n = allB B 0 (n - 0)), Below.refl _ _⟩
  case round =>
    obtain ⟨k, hk, rfl, HA, hbr⟩ := hrel
    by_cases hlt : k < n
    · have hlti : (k : Int) < (n : Int) := by omega
      obtain ⟨e0, e1⟩ := HC.out k hlt
      have c0 := (hbr.cell (World.block_lt_of_cell? _ _ e0)).trans e0
      have c1 := (hbr.cell (World.block_lt_of_cell? _ _ e1)).trans e1
      have hbn := hbr.alloc hbr.size (.cells #[.bool (N k), .slice (A k) (Ln k) (Cn k)] 28)
      have HFk := (show Hid _ from HF.out k hlt _ hbn)
      clear e0 e1
      cases hB : B k with
      | true =>
        rw [hB] at HFk
        have HE2 : Hid (allB B 0 n = allB B (k + 1) (n - (k + 1))) := HA.out.trans (allB_on hB hlt)
        clear HA hB
        go_wp2_with fail
        refine Calls.mono HFk.out ?_
        rintro e w3 ⟨rfl, hb3⟩
        have hB3 := hbn.trans (hb3.mono hbn.size)
        clear HFk hbn hb3 c0 c1 hbr
        go_wp2
        go_roundw
        case rel => exact ⟨k + 1, by omega, by go_num, HE2, hB3⟩
        case measure => simp [intOf]; omega
      | false =>
        rw [hB] at HFk
        have HE2 : Hid (allB B 0 n = false) := HA.out.trans (allB_off hB hlt)
        clear HA hB
        go_wp2_with fail
        refine Calls.mono HFk.out ?_
        rintro e w3 ⟨rfl, hb3⟩
        have hB3 := hbn.trans (hb3.mono hbn.size)
        clear HFk hbn hb3 c0 c1 hbr
        go_wp2
        go_ret
        exact ⟨ret_bool HE2.out.symm, hB3⟩
    · have hge : ¬ (k : Int) < (n : Int) := by omega
      obtain rfl : k = n := by omega
      go_wp2
      go_ret
      refine ⟨ret_bool ?_, hbr⟩
      rw [HA.out, Nat.sub_self]; rfl

set_option maxRecDepth 20000 in
set_option maxHeartbeats 1600000 in
theorem mayF_any (F b n : Nat) (N : Nat → Bool) (A : Nat → Option Addr) (Ln Cn : Nat → Nat) (D : Nat → Option Addr) (Ld Cd : Nat → Nat) (B : Nat → Bool) (w : World) (hn : n ≤ 1000)
    (hE : ∀ (args : Array Value) (w : World), (callFunc F args).run Try.prog w = .ok (.enter F args) w)
    (hc : ∀ k, k < n → w.cell? ⟨b, k * 3, none⟩ = some (.bool (N k)) ∧ w.cell? ⟨b, k * 3 + 1, none⟩ = some (.slice (A k) (Ln k) (Cn k)) ∧ w.cell? ⟨b, k * 3 + 2, none⟩ = some (.slice (D k) (Ld k) (Cd k)))
    (hf : ∀ k, k < n → ∀ wx, Below w.heap.size w wx → Calls Try.prog F #[.agg #[.bool (N k), .slice (A k) (Ln k) (Cn k), .slice (D k) (Ld k) (Cd k)]] wx fun e w' => e = .returned (.bool (B k)) ∧ Below wx.heap.size wx w') :
    Calls Try.prog 40 #[.func (.func F) #[] #[], .slice (some ⟨b, 0, none⟩) n n] w fun e w' => e = .returned (.bool (allB B 0 n)) ∧ Below w.heap.size w w' := by
  have HC : Hid (∀ k, k < n → w.cell? ⟨b, k * 3, none⟩ = some (.bool (N k)) ∧ w.cell? ⟨b, k * 3 + 1, none⟩ = some (.slice (A k) (Ln k) (Cn k)) ∧ w.cell? ⟨b, k * 3 + 2, none⟩ = some (.slice (D k) (Ld k) (Cd k))) := hc
  have HF : Hid (∀ k, k < n → ∀ wx, Below w.heap.size w wx → Calls Try.prog F #[.agg #[.bool (N k), .slice (A k) (Ln k) (Cn k), .slice (D k) (Ld k) (Cd k)]] wx fun e w' => e = .returned (.bool (B k)) ∧ Below wx.heap.size wx w') := hf
  clear hc hf
  go_enter Try.func40, Try.ntmps40
  go_wp2
  go_loopw [9] (fun iv wr => ∃ k : Nat, k ≤ n ∧ iv = .int .i64 k ∧ Hid (allB B 0 n = allB B k (n - k)) ∧ Below w.heap.size w wr) (fun iv _ => n - (intOf iv).toNat)
  case atStart => exact ⟨0, Nat.zero_le _, rfl, (rfl : allB B 0 n = allB B 0 (n - 0)), Below.refl _ _⟩
  case round =>
    obtain ⟨k, hk, rfl, HA, hbr⟩ := hrel
    by_cases hlt : k < n
    · have hlti : (k : Int) < (n : Int) := by omega
      obtain ⟨e0, e1, e2⟩ := HC.out k hlt
      have c0 := (hbr.cell (World.block_lt_of_cell? _ _ e0)).trans e0
      have c1 := (hbr.cell (World.block_lt_of_cell? _ _ e1)).trans e1
      have c2 := (hbr.cell (World.block_lt_of_cell? _ _ e2)).trans e2
      have hbn := hbr.alloc hbr.size (.cells #[.bool (N k), .slice (A k) (Ln k) (Cn k), .slice (D k) (Ld k) (Cd k)] 30)
      have HFk := (show Hid _ from HF.out k hlt _ hbn)
      clear e0 e1 e2
      cases hB : B k with
      | true =>
        rw [hB] at HFk
        have HE2 : Hid (allB B 0 n = allB B (k + 1) (n - (k + 1))) := HA.out.trans (allB_on hB hlt)
        clear HA hB
        go_wp2_with fail
        refine Calls.mono HFk.out ?_
        rintro e w3 ⟨rfl, hb3⟩
        have hB3 := hbn.trans (hb3.mono hbn.size)
        clear HFk hbn hb3 c0 c1 c2 hbr
        go_wp2
        go_roundw
        case rel => exact ⟨k + 1, by omega, by go_num, HE2, hB3⟩
        case measure => simp [intOf]; omega
      | false =>
        rw [hB] at HFk
        have HE2 : Hid (allB B 0 n = false) := HA.out.trans (allB_off hB hlt)
        clear HA hB
        go_wp2_with fail
        refine Calls.mono HFk.out ?_
        rintro e w3 ⟨rfl, hb3⟩
        have hB3 := hbn.trans (hb3.mono hbn.size)
        clear HFk hbn hb3 c0 c1 c2 hbr
        go_wp2
        go_ret
        exact ⟨ret_bool HE2.out.symm, hB3⟩
    · have hge : ¬ (k : Int) < (n : Int) := by omega
      obtain rfl : k = n := by omega
      go_wp2
      go_ret
      refine ⟨ret_bool ?_, hbr⟩
      rw [HA.out, Nat.sub_self]; rfl

/-- Two whole numbers, wherever they lie. -/
theorem may2_any (n m : Bool) (a b : Option Addr) (la ca lb cb g : Nat) (xs ys : List Int) (w : World) (h1 : Nums w a la ca xs) (h2 : Nums w b lb cb ys)
    (c0 : w.cell? ⟨g, 0, none⟩ = some (.bool n)) (c1 : w.cell? ⟨g, 1, none⟩ = some (.slice a la ca)) (c2 : w.cell? ⟨g, 2, none⟩ = some (.bool m)) (c3 : w.cell? ⟨g, 3, none⟩ = some (.slice b lb cb)) :
    Calls Try.prog 51 #[.func (.func 47) #[] #[], .slice (some ⟨g, 0, none⟩) 2 2] w fun e w' => e = .returned (.bool (rightI n xs && rightI m ys)) ∧ Below w.heap.size w w' := by
  refine (mayI_any _ g 2 (fun k => if k = 0 then n else m) (fun k => if k = 0 then a else b) (fun k => if k = 0 then la else lb) (fun k => if k = 0 then ca else cb) (fun k => if k = 0 then rightI n xs else rightI m ys) w (by decide) Try.call47 ?_ ?_).mono ?_
  · intro k hk
    have : k = 0 ∨ k = 1 := by omega
    rcases this with rfl | rfl
    · exact ⟨c0, c1⟩
    · exact ⟨c2, c3⟩
  · intro k hk wx hbx
    have : k = 0 ∨ k = 1 := by omega
    rcases this with rfl | rfl
    · exact iright_any n _ _ _ _ wx (h1.below hbx)
    · exact iright_any m _ _ _ _ wx (h2.below hbx)
  · rintro e w' ⟨rfl, hb'⟩
    refine ⟨?_, hb'⟩
    simp [allB]

def RgtAt8 (w : World) (n : Bool) (a b : Option Addr) (la ca lb cb : Nat) (xs ys : List Int) : Prop := ∀ wx, Below w.heap.size w wx → Calls Try.prog 41 #[.agg #[.bool n, .slice a la ca, .slice b lb cb]] wx fun e w' => e = .returned (.bool (rightF n xs ys)) ∧ Below wx.heap.size wx w'
/-- Two fractions, wherever they lie. -/
theorem mayF2_any (n m : Bool) (a b c d : Option Addr) (la ca lb cb lc cc ld cd g : Nat) (xs ys us vs : List Int) (w : World) (h1 : RgtAt8 w n a b la ca lb cb xs ys) (h2 : RgtAt8 w m c d lc cc ld cd us vs)
    (c0 : w.cell? ⟨g, 0, none⟩ = some (.bool n)) (c1 : w.cell? ⟨g, 1, none⟩ = some (.slice a la ca)) (c2 : w.cell? ⟨g, 2, none⟩ = some (.slice b lb cb)) (c3 : w.cell? ⟨g, 3, none⟩ = some (.bool m)) (c4 : w.cell? ⟨g, 4, none⟩ = some (.slice c lc cc)) (c5 : w.cell? ⟨g, 5, none⟩ = some (.slice d ld cd)) :
    Calls Try.prog 40 #[.func (.func 41) #[] #[], .slice (some ⟨g, 0, none⟩) 2 2] w fun e w' => e = .returned (.bool (rightF n xs ys && rightF m us vs)) ∧ Below w.heap.size w w' := by
  refine (mayF_any _ g 2 (fun k => if k = 0 then n else m) (fun k => if k = 0 then a else c) (fun k => if k = 0 then la else lc) (fun k => if k = 0 then ca else cc) (fun k => if k = 0 then b else d) (fun k => if k = 0 then lb else ld) (fun k => if k = 0 then cb else cd) (fun k => if k = 0 then rightF n xs ys else rightF m us vs) w (by decide) Try.call41 ?_ ?_).mono ?_
  · intro k hk
    have : k = 0 ∨ k = 1 := by omega
    rcases this with rfl | rfl
    · exact ⟨c0, c1, c2⟩
    · exact ⟨c3, c4, c5⟩
  · intro k hk wx hbx
    have : k = 0 ∨ k = 1 := by omega
    rcases this with rfl | rfl
    · exact h1 wx hbx
    · exact h2 wx hbx
  · rintro e w' ⟨rfl, hb'⟩
    refine ⟨?_, hb'⟩
    simp [allB]
theorem mayF1_any (n : Bool) (a b : Option Addr) (la ca lb cb g : Nat) (xs ys : List Int) (w : World) (h1 : RgtAt8 w n a b la ca lb cb xs ys)
    (c0 : w.cell? ⟨g, 0, none⟩ = some (.bool n)) (c1 : w.cell? ⟨g, 1, none⟩ = some (.slice a la ca)) (c2 : w.cell? ⟨g, 2, none⟩ = some (.slice b lb cb)) :
    Calls Try.prog 40 #[.func (.func 41) #[] #[], .slice (some ⟨g, 0, none⟩) 1 1] w fun e w' => e = .returned (.bool (rightF n xs ys)) ∧ Below w.heap.size w w' := by
  refine (mayF_any _ g 1 (fun _ => n) (fun _ => a) (fun _ => la) (fun _ => ca) (fun _ => b) (fun _ => lb) (fun _ => cb) (fun _ => rightF n xs ys) w (by decide) Try.call41 ?_ ?_).mono ?_
  · intro k hk
    obtain rfl : k = 0 := by omega
    exact ⟨c0, c1, c2⟩
  · intro k hk wx hbx
    exact h1 wx hbx
  · rintro e w' ⟨rfl, hb'⟩
    refine ⟨?_, hb'⟩
    simp [allB]

set_option maxRecDepth 20000 in
set_option maxHeartbeats 3200000 in
/-- A whole number by a number that is not 0, in lowest terms. -/
theorem lowest_any (n : Bool) (a b : Option Addr) (la ca lb cb : Nat) (xs ys : List Int) (x : Int) (y : Nat) (w : World) (h : Nums w a la ca xs) (h' : Nums w b lb cb ys) (hW : IsW n xs x) (hy : IsN ys y) (hy0 : 0 < y) :
    Calls Try.prog 44 #[.agg #[.bool n, .slice a la ca], .slice b lb cb] w fun e w' => FracT (makF x y) (numF x y) (denF x y) w e w' := by
  obtain ⟨f, hf⟩ : ∃ f, f = makF x y := ⟨_, rfl⟩
  obtain ⟨X, hX⟩ : ∃ X, X = numF x y := ⟨_, rfl⟩
  obtain ⟨Y, hY⟩ : ∃ Y, Y = denF x y := ⟨_, rfl⟩
  rw [← hf, ← hX, ← hY]
  have HXY : Hid (f = makF x y ∧ X = numF x y ∧ Y = denF x y) := ⟨hf, hX, hY⟩
  clear hf hX hY
  obtain ⟨V, hVe⟩ : ∃ V, V = (w.alloc (.cells #[.bool n, .slice a la ca] 28)).alloc (.cells #[.bool false, .slice none 0 0, .slice none 0 0] 30) := ⟨_, rfl⟩
  have hv1 := balloc w (.cells #[.bool n, .slice a la ca] 28)
  have hv2 := balloc (w.alloc (.cells #[.bool n, .slice a la ca] 28)) (.cells #[.bool false, .slice none 0 0, .slice none 0 0] 30)
  have hV := bthen hv1 hv2
  have hA := (Cell2.new w n a la ca).below hv2
  have hR := Cell3.new (w.alloc (.cells #[.bool n, .slice a la ca] 28)) false none none 0 0 0 0
  rw [World.size_alloc] at hR
  rw [← hVe] at hV hA hR
  obtain ⟨c0, c1, -, -⟩ := hA
  replace h := h.below hV
  replace h' := h'.below hV
  have HVe : Hid (V = (w.alloc (.cells #[.bool n, .slice a la ca] 28)).alloc (.cells #[.bool false, .slice none 0 0, .slice none 0 0] 30)) := hVe
  have hgr : w.heap.size ≤ w.heap.size + 1 := Nat.le_succ _
  have hmag := hW.mag
  have hsg : Hid (n = decide (x < 0)) := hW.sign
  have hgp := gF_pos (x := x) hy0
  clear hVe hv1 hv2 hW
  go_enter Try.func44, Try.ntmps44
  go_wp2_with fail
  rw [← HVe.out]
  refine (common_any _ _ _ _ _ _ _ _ _ _ _ h h' hmag hy).mono ?_
  rintro e w3 ⟨ga, gl, gc, gs, rfl, hG, hg', hb3⟩
  have hg : IsN gs (gF x y) := hg'
  have hB3 := bthen hV hb3
  replace h := h.below hb3
  replace h' := h'.below hb3
  replace c0 := bkeep hb3 c0 rfl
  replace c1 := bkeep hb3 c1 rfl
  replace hR := hR.below hb3
  clear hb3 hV HVe hg'
  go_wp2_with fail
  refine (div_any _ _ _ _ _ _ _ _ _ h hG).mono ?_
  rintro e w4 ⟨pa, pl, pc, ps, ra, rl, rc, rs, pe, rfl, hPn, -, hD4, -, -, -, hb4⟩
  have hp := div_isN hmag hg hgp hD4
  have hB4 := bthen hB3 hb4
  replace h' := h'.below hb4
  replace hG := hG.below hb4
  replace c0 := bkeep hb4 c0 rfl
  replace hR := hR.below hb4
  clear hD4 hb4 hB3 h c1
  go_wp2_with fail
  refine (div_any _ _ _ _ _ _ _ _ _ h' hG).mono ?_
  rintro e w5 ⟨da, dl, dc, ds, sa, sl, sc, ss, de, rfl, hDn, -, hD5, -, -, -, hb5⟩
  have hd := div_isN hy hg hgp hD5
  have hB5 := bthen hB4 hb5
  replace hPn := hPn.below hb5
  replace c0 := bkeep hb5 c0 rfl
  replace hR := hR.below hb5
  have hpl := hPn.hlen
  have hdl := hDn.hlen
  have q1 := hPn.hmax
  have q2 := hPn.hcap
  have q3 := hDn.hmax
  have q4 := hDn.hcap
  unfold maxLen at q1 q3
  have l1 := len_16 hp
  have l2 := len_16 hd
  rw [hpl] at l1
  rw [hdl] at l2
  have HMk : Hid (f = if fitsB pl dl then none else some 4) := by
    show _ = _
    rw [HXY.out.1]
    unfold makF fitsB
    rw [if_neg (by omega), num_abs]
    by_cases c : pl ≤ 16 ∧ dl ≤ 16
    · rw [if_pos ⟨l1.1 c.1, l2.1 c.2⟩, decide_eq_true c.1, decide_eq_true c.2]; rfl
    · rw [if_neg (fun k => c ⟨l1.2 k.1, l2.2 k.2⟩), if_neg (by simpa using c)]
  have HD : Hid (IsN ds Y) := by show IsN _ _; rw [HXY.out.2.2]; exact hd
  have HW : Hid (IsW (fromN n ps) (fromL ps) X) := by
    show IsW _ _ _
    rw [HXY.out.2.1, ← num_from hsg.out hy0]
    exact IsW.from hp n
  have HFi := (show Hid _ from fits_any pa da pl pc dl dc w5 (by omega) (by omega))
  clear hD5 hb5 hB4 h' hG hmag hsg hy hy0 hgp hg hp hd l1 l2 hpl hdl q1 q2 q3 q4
  cases hF : fitsB pl dl with
  | false =>
    rw [hF] at HFi
    have HF : Hid (ToldF f X Y false [] [] 4) := ToldF.bad (by rw [HMk.out, hF]; rfl)
    have hBB := put3_below hB5 hgr (.bool false) (.slice none 0 0) (.slice none 0 0)
    obtain ⟨r0, r1, r2, f0, f1, f2⟩ := hR
    clear HMk HD HW hPn hDn hB5
    go_wp2_with fail
    refine Calls.mono HFi.out ?_
    rintro e w6 ⟨rfl, rfl⟩
    clear HFi
    go_wp2_with fail
    exact bodyPost_ret (v := .tuple #[.agg #[.bool false, .slice none 0 0, .slice none 0 0], .int .i64 4]) (by simp [results, Try.results44, go_sem, r0, r1, r2]) rfl ⟨false, none, 0, 0, none, 0, 0, [], [], 4, rfl, ⟨Nums.nil _, Nums.nil _⟩, HF.out, hBB⟩
  | true =>
    rw [hF] at HFi
    go_wp2_with fail
    refine Calls.mono HFi.out ?_
    rintro e w6 ⟨rfl, rfl⟩
    clear HFi
    go_wp2_with fail
    refine (from_any n _ _ _ _ _ hPn).mono ?_
    rintro e w7 ⟨ea, el, ec, rfl, hFr, hb6⟩
    obtain ⟨t, ht⟩ : ∃ t, t = fromN n ps := ⟨_, rfl⟩
    rw [← ht] at HW
    rw [← ht]
    replace hDn := hDn.below hb6
    replace hR := hR.below hb6
    have hB6 := bthen hB5 hb6
    have HF : Hid (ToldF f X Y t (fromL ps) ds 0) := ToldF.good (by rw [HMk.out, hF]; rfl) HW.out HD.out
    have hBB := put3_below hB6 hgr (.bool t) (.slice ea el ec) (.slice da dl dc)
    have e1 := Nums.put3 hR hFr (.bool t) (.slice ea el ec) (.slice da dl dc)
    have e2 := Nums.put3 hR hDn (.bool t) (.slice ea el ec) (.slice da dl dc)
    obtain ⟨r0, r1, r2, f0, f1, f2⟩ := hR
    clear ht HMk HD HW hPn hDn hFr hB5 hb6 hB6
    go_wp2_with fail
    exact bodyPost_ret (v := .tuple #[.agg #[.bool t, .slice ea el ec, .slice da dl dc], .int .i64 0]) (by simp [results, Try.results44, go_sem, r0, r1, r2]) rfl ⟨t, ea, el, ec, da, dl, dc, _, ds, 0, rfl, ⟨e1, e2⟩, HF.out, hBB⟩
end Go.Proofs.Ytchmlfjjgehbkaa

namespace Go.Proofs.Ytchmlfjjgehbkaa
open Go.RowKit

set_option maxRecDepth 20000 in
set_option maxHeartbeats 6400000 in
theorem mak_ok8 : MakOk8 := by
  intro n a b la ca lb cb xs ys w h h'
  obtain ⟨f, hf⟩ : ∃ f, f = makeFF n xs ys := ⟨_, rfl⟩
  obtain ⟨X, hX⟩ : ∃ X, X = numF (iv n xs) (nv ys) := ⟨_, rfl⟩
  obtain ⟨Y, hY⟩ : ∃ Y, Y = denF (iv n xs) (nv ys) := ⟨_, rfl⟩
  rw [← hf, ← hX, ← hY]
  have HXY : Hid (f = makeFF n xs ys ∧ X = numF (iv n xs) (nv ys) ∧ Y = denF (iv n xs) (nv ys)) := ⟨hf, hX, hY⟩
  clear hf hX hY
  obtain ⟨V, hVe⟩ : ∃ V, V = (w.alloc (.cells #[.bool n, .slice a la ca] 28)).alloc (.cells #[.bool false, .slice none 0 0, .slice none 0 0] 30) := ⟨_, rfl⟩
  have hv1 := balloc w (.cells #[.bool n, .slice a la ca] 28)
  have hv2 := balloc (w.alloc (.cells #[.bool n, .slice a la ca] 28)) (.cells #[.bool false, .slice none 0 0, .slice none 0 0] 30)
  have hV := bthen hv1 hv2
  have hA := (Cell2.new w n a la ca).below hv2
  have hR := Cell3.new (w.alloc (.cells #[.bool n, .slice a la ca] 28)) false none none 0 0 0 0
  rw [World.size_alloc] at hR
  rw [← hVe] at hV hA hR
  have hGV := hA.lt
  obtain ⟨c0, c1, -, -⟩ := hA
  replace h := h.below hV
  replace h' := h'.below hV
  have hm2 := h'.hmax
  have hc2 := h'.hcap
  unfold maxLen at hm2
  have HL : Hid (ys.length = lb) := h'.hlen
  have HVe : Hid (V = (w.alloc (.cells #[.bool n, .slice a la ca] 28)).alloc (.cells #[.bool false, .slice none 0 0, .slice none 0 0] 30)) := hVe
  clear hVe hv1 hv2
  go_enter Try.func31, Try.ntmps31
  go_wp2_with fail
  rw [← HVe.out]
  obtain ⟨G, hG⟩ : ∃ G, G = w.heap.size := ⟨_, rfl⟩
  rw [← hG] at hR c0 c1 hGV
  rw [← hG]
  have HG : Hid (G = w.heap.size) := hG
  clear hG HVe
  obtain ⟨Q, hQ⟩ : ∃ Q, Q = (rightI n xs && rightI false ys) := ⟨_, rfl⟩
  have HQ : Hid (Q = (rightI n xs && rightI false ys)) := hQ
  clear hQ
  have HRB : Hid (Below V.heap.size V V) := Below.refl _ _
  have HWo : Hid (∀ wx : World, Below V.heap.size V wx → Calls Try.prog 52 #[.slice b lb cb] wx fun e w' => e = .returned (.agg #[.bool false, .slice b lb cb]) ∧ Hid (Below V.heap.size V w') ∧ (w'.cell? ⟨G, 0, none⟩ = some (.bool n) ∧ w'.cell? ⟨G, 1, none⟩ = some (.slice a la ca)) ∧ G < w'.heap.size) := by
    intro wx hbx
    refine (wholeOf_any b lb cb wx).mono ?_
    rintro e w' ⟨rfl, hb⟩
    have hb' := bthen hbx hb
    exact ⟨rfl, hb', ⟨bkeep hb' c0 rfl, bkeep hb' c1 rfl⟩, Nat.lt_of_lt_of_le hGV hb'.size⟩
  have HMa : Hid (∀ (wx : World) (g : Nat), Below V.heap.size V wx → wx.cell? ⟨g, 0, none⟩ = some (.bool n) → wx.cell? ⟨g, 1, none⟩ = some (.slice a la ca) → wx.cell? ⟨g, 2, none⟩ = some (.bool false) → wx.cell? ⟨g, 3, none⟩ = some (.slice b lb cb) → Calls Try.prog 51 #[.func (.func 47) #[] #[], .slice (some ⟨g, 0, none⟩) 2 2] wx fun e w' => e = .returned (.bool Q) ∧ Hid (Below V.heap.size V w') ∧ (w'.cell? ⟨G, 0, none⟩ = some (.bool n) ∧ w'.cell? ⟨G, 1, none⟩ = some (.slice a la ca)) ∧ G < w'.heap.size) := by
    intro wx g hbx g0 g1 g2 g3
    refine (may2_any n false a b la ca lb cb g xs ys wx (h.below hbx) (h'.below hbx) g0 g1 g2 g3).mono ?_
    rintro e w' ⟨rfl, hb⟩
    have hb' := bthen hbx hb
    exact ⟨ret_bool HQ.out.symm, hb', ⟨bkeep hb' c0 rfl, bkeep hb' c1 rfl⟩, Nat.lt_of_lt_of_le hGV hb'.size⟩
  go_cut [11] (fun qv wx => qv = .bool (!Q) ∧ Below V.heap.size V wx)
  case first =>
    clear h h' hV HQ HG HXY HL hR
    have ne0 := World.new_ne V ⟨G, 0, none⟩ c0
    go_region_held3 (fun w' => w'.cell? ⟨G, 0, none⟩ = some (.bool n) ∧ w'.cell? ⟨G, 1, none⟩ = some (.slice a la ca)) (first | go_keep | exact n6 | exact o6)
      (first
      | (go_at_call 52; with_reducible refine Calls.mono (HWo.out _ ?_) ?_; (focus (repeat (first | exact HRB.out | refine bdrawD ?_ | refine bgrowD ?_ _))); rintro e w3 ⟨rfl, hA, n6, n7⟩; have ne3 := World.new_ne w3 ⟨G, 0, none⟩ n6.1)
      | (go_at_call 51; with_reducible refine Calls.mono (HMa.out _ _ ?_ ?_ ?_ ?_ ?_) ?_; (focus (repeat (first | exact hA.out | refine bdrawD ?_ | refine bgrowD ?_ _))); (go_simp); (go_simp); (go_simp); (go_simp); rintro e w4 ⟨rfl, hM, o6, o7⟩))
    all_goals
      clear HWo HMa HRB
      go_wp2_with fail
      go_meet
      case rel => exact ⟨rfl, hM.out⟩
  case rest =>
    obtain ⟨rfl, hbc⟩ := hcut
    have hB1 := bthen hV hbc
    replace h := h.below hbc
    replace h' := h'.below hbc
    replace c0 := bkeep hbc c0 rfl
    replace c1 := bkeep hbc c1 rfl
    replace hR := hR.below hbc
    have hgr : w.heap.size ≤ G + 1 := by rw [HG.out]; omega
    have HF0 : Hid (rightI false ys = rightB ys) := by show _ = _; simp [rightI]
    clear HWo HMa HRB hV hbc hGV HG
    cases hr : Q with
    | false =>
      have HF : Hid (ToldF f X Y false [] [] 1) := ToldF.bad (by have := HQ.out; rw [hr, HF0.out] at this; rw [HXY.out.1]; unfold makeFF; rw [← this]; rfl)
      have hBB := put3_below hB1 hgr (.bool false) (.slice none 0 0) (.slice none 0 0)
      obtain ⟨r0, r1, r2, f0, f1, f2⟩ := hR
      clear h h' hB1 c0 c1
      go_wp2_with fail
      exact bodyPost_ret (v := .tuple #[.agg #[.bool false, .slice none 0 0, .slice none 0 0], .int .i64 1]) (by simp [results, Try.results31, go_sem, r0, r1, r2]) rfl ⟨false, none, 0, 0, none, 0, 0, [], [], 1, rfl, ⟨Nums.nil _, Nums.nil _⟩, HF.out, hBB⟩
    | true =>
      have hq := HQ.out
      rw [hr, HF0.out] at hq
      have hq2 := hq.symm
      rw [Bool.and_eq_true] at hq2
      have hW := IsW.self h.digs hq2.1
      have hy := IsN.self h'.digs hq2.2
      have hyp := nv_pos h'.digs hq2.2
      have HFF : Hid (f = makF (iv n xs) (nv ys)) := by show _ = _; rw [HXY.out.1]; unfold makeFF; rw [← hq]; rfl
      clear hq hq2 HQ HF0
      by_cases h0 : lb = 0
      · subst h0
        have HF : Hid (ToldF f X Y false [] [] 3) := ToldF.bad (by rw [HFF.out]; unfold makF; rw [if_pos (by have := HL.out; omega)])
        have hBB := put3_below hB1 hgr (.bool false) (.slice none 0 0) (.slice none 0 0)
        obtain ⟨r0, r1, r2, f0, f1, f2⟩ := hR
        clear h h' hW hy hyp HFF hB1 c0 c1
        go_wp2_with fail
        exact bodyPost_ret (v := .tuple #[.agg #[.bool false, .slice none 0 0, .slice none 0 0], .int .i64 3]) (by simp [results, Try.results31, go_sem, r0, r1, r2]) rfl ⟨false, none, 0, 0, none, 0, 0, [], [], 3, rfl, ⟨Nums.nil _, Nums.nil _⟩, HF.out, hBB⟩
      have h0i : ((lb : Int) == 0) = false := by simp; omega
      have hy0 : 0 < nv ys := hyp.2 (by rw [HL.out]; exact h0)
      have HLo := (show Hid _ from lowest_any n _ _ _ _ _ _ _ _ _ _ _ h h' hW hy hy0)
      rw [← HXY.out.2.1, ← HXY.out.2.2, ← HFF.out] at HLo
      clear h h' hW hy hyp HFF HXY hy0
      go_wp2_with fail
      refine Calls.mono HLo.out ?_
      rintro e w4 ⟨zb, za, zl, zc, za', zl', zc', zs, zs', err, rfl, ⟨hZ1, hZ2⟩, hTold, hb4⟩
      replace hR := hR.below hb4
      have hBB := put3_below (bthen hB1 hb4) hgr (.bool zb) (.slice za zl zc) (.slice za' zl' zc')
      have k1 := Nums.put3 hR hZ1 (.bool zb) (.slice za zl zc) (.slice za' zl' zc')
      have k2 := Nums.put3 hR hZ2 (.bool zb) (.slice za zl zc) (.slice za' zl' zc')
      have HT : Hid (ToldF f X Y zb zs zs' err) := hTold
      obtain ⟨r0, r1, r2, f0, f1, f2⟩ := hR
      clear HLo hZ1 hZ2 hTold hb4 hB1 c0 c1
      go_wp2_with fail
      exact bodyPost_ret (v := .tuple #[.agg #[.bool zb, .slice za zl zc, .slice za' zl' zc'], .int .i64 err]) (by simp [results, Try.results31, go_sem, r0, r1, r2]) rfl ⟨zb, za, zl, zc, za', zl', zc', zs, zs', err, rfl, ⟨k1, k2⟩, HT.out, hBB⟩
end Go.Proofs.Ytchmlfjjgehbkaa

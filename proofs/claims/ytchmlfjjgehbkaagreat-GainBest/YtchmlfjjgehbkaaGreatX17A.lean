/-
  Fractions added, compared, made by the program. Written by mk/x17.py.
-/
import Derived.Test.YtchmlfjjgehbkaaGreatX17M
import Derived.Test.YtchmlfjjgehbkaaGreatX8Q
import Derived.Test.YtchmlfjjgehbkaaGreatX8P
import Derived.Test.YtchmlfjjgehbkaaGreatModB
namespace Go.Proofs.YtchmlfjjgehbkaaGreat
open Go.RowKit

set_option maxRecDepth 20000 in
theorem x17add_any {p q : Q17} (hp : Fit17 p) (hq : Fit17 q) (hs : Fit17 (addQ17 p q)) {w : World} {m1 m2 : Bool} {p1 p2 p3 p4 : Option Addr} {l1 c1 l2 c2 l3 c3 l4 c4 : Nat} (h1 : FrAt17 w m1 p1 l1 c1 p2 l2 c2 p) (h2 : FrAt17 w m2 p3 l3 c3 p4 l4 c4 q) :
    Calls Tryz.prog 40 #[.agg #[.bool m1, .slice p1 l1 c1, .slice p2 l2 c2], .agg #[.bool m2, .slice p3 l3 c3, .slice p4 l4 c4]] w fun e w' => Fe17T (addQ17 p q) w e w' := by
  obtain ⟨us, vs, n1, n2, hW, hN⟩ := h1
  obtain ⟨us', vs', n3, n4, hW', hN'⟩ := h2
  have hr1 := right_low17 hp.1 hp.2.1 hp.2.2 hW hN
  have hr2 := right_low17 hq.1 hq.2.1 hq.2.2 hW' hN'
  have hT : addT m1 us vs m2 us' vs' = numF p.1 p.2 * (denF q.1 q.2 : Int) + numF q.1 q.2 * (denF p.1 p.2 : Int) := by
    unfold addT
    rw [hW.2.2, hW'.2.2, hN.nv, hN'.nv]
  have hD : nv vs * nv vs' = denF p.1 p.2 * denF q.1 q.2 := by rw [hN.nv, hN'.nv]
  obtain ⟨k1, k2⟩ := low_add17 (x := p.1) (u := q.1) hp.1 hq.1
  have hf : arF m1 us vs m2 us' vs' (addT m1 us vs m2 us' vs') (nv vs * nv vs') = none := by
    unfold arF
    rw [hr1, hr2, hT, hD]
    exact makF_same17 (Nat.mul_pos (den_pos hp.1) (den_pos hq.1)) k1 k2 hs.2.1 hs.2.2
  have hc := add_ok8 m1 m2 _ _ _ _ _ _ _ _ _ _ _ _ us vs us' vs' w n1 n2 n3 n4
  rw [hf, hT, hD, k1, k2] at hc
  refine hc.mono ?_
  intro e w' hh
  exact FT17.ok (P := True) (q := addQ17 p q) ⟨fun _ => hh, fun e => absurd trivial e⟩ trivial
set_option maxRecDepth 20000 in
theorem x17sub_any {p q : Q17} (hp : Fit17 p) (hq : Fit17 q) (hs : Fit17 (subQ17 p q)) {w : World} {m1 m2 : Bool} {p1 p2 p3 p4 : Option Addr} {l1 c1 l2 c2 l3 c3 l4 c4 : Nat} (h1 : FrAt17 w m1 p1 l1 c1 p2 l2 c2 p) (h2 : FrAt17 w m2 p3 l3 c3 p4 l4 c4 q) :
    Calls Tryz.prog 15 #[.agg #[.bool m1, .slice p1 l1 c1, .slice p2 l2 c2], .agg #[.bool m2, .slice p3 l3 c3, .slice p4 l4 c4]] w fun e w' => Fe17T (subQ17 p q) w e w' := by
  obtain ⟨us, vs, n1, n2, hW, hN⟩ := h1
  obtain ⟨us', vs', n3, n4, hW', hN'⟩ := h2
  have hr1 := right_low17 hp.1 hp.2.1 hp.2.2 hW hN
  have hr2 := right_low17 hq.1 hq.2.1 hq.2.2 hW' hN'
  have hT : subT m1 us vs m2 us' vs' = numF p.1 p.2 * (denF q.1 q.2 : Int) - numF q.1 q.2 * (denF p.1 p.2 : Int) := by
    unfold subT
    rw [hW.2.2, hW'.2.2, hN.nv, hN'.nv]
  have hD : nv vs * nv vs' = denF p.1 p.2 * denF q.1 q.2 := by rw [hN.nv, hN'.nv]
  obtain ⟨k1, k2⟩ := low_sub17 (x := p.1) (u := q.1) hp.1 hq.1
  have hf : arF m1 us vs m2 us' vs' (subT m1 us vs m2 us' vs') (nv vs * nv vs') = none := by
    unfold arF
    rw [hr1, hr2, hT, hD]
    exact makF_same17 (Nat.mul_pos (den_pos hp.1) (den_pos hq.1)) k1 k2 hs.2.1 hs.2.2
  have hc := sub_ok8 m1 m2 _ _ _ _ _ _ _ _ _ _ _ _ us vs us' vs' w n1 n2 n3 n4
  rw [hf, hT, hD, k1, k2] at hc
  refine hc.mono ?_
  intro e w' hh
  exact FT17.ok (P := True) (q := subQ17 p q) ⟨fun _ => hh, fun e => absurd trivial e⟩ trivial
set_option maxRecDepth 20000 in
theorem x17cmp_any {p q : Q17} (hp : Fit17 p) (hq : Fit17 q) {w : World} {m1 m2 : Bool} {p1 p2 p3 p4 : Option Addr} {l1 c1 l2 c2 l3 c3 l4 c4 : Nat} (h1 : FrAt17 w m1 p1 l1 c1 p2 l2 c2 p) (h2 : FrAt17 w m2 p3 l3 c3 p4 l4 c4 q) :
    Calls Tryz.prog 28 #[.agg #[.bool m1, .slice p1 l1 c1, .slice p2 l2 c2], .agg #[.bool m2, .slice p3 l3 c3, .slice p4 l4 c4]] w fun e w' => e = .returned (.int .i64 (cmpZ (p.1 * (q.2 : Int)) (q.1 * (p.2 : Int)))) ∧ Below w.heap.size w w' := by
  obtain ⟨us, vs, n1, n2, hW, hN⟩ := h1
  obtain ⟨us', vs', n3, n4, hW', hN'⟩ := h2
  have hc := cmp_ok8 m1 m2 _ _ _ _ _ _ _ _ _ _ _ _ us vs us' vs' w n1 n2 n3 n4
  have e : cmpFF m1 us vs m2 us' vs' = cmpZ (p.1 * (q.2 : Int)) (q.1 * (p.2 : Int)) := by
    unfold cmpFF
    rw [right_low17 hp.1 hp.2.1 hp.2.2 hW hN, right_low17 hq.1 hq.2.1 hq.2.2 hW' hN', hW.2.2, hW'.2.2, hN.nv, hN'.nv]
    exact low_cmp17 hp.1 hq.1
  rw [e] at hc
  exact hc
set_option maxRecDepth 20000 in
theorem x17make_any {x : Int} {y : Nat} (hf : Fit17 (x, y)) {w : World} {m m2 : Bool} {a a2 : Option Addr} {l c l2 c2 : Nat} (h1 : WAt w m a l c x) (h2 : WAt w m2 a2 l2 c2 (y : Int)) :
    Calls Tryz.prog 43 #[.agg #[.bool m, .slice a l c], .slice a2 l2 c2] w fun e w' => Fe17T (x, y) w e w' := by
  obtain ⟨us, n1, hW⟩ := h1
  obtain ⟨vs, n2, hV⟩ := h2
  have hmk := mak_ok8 m _ _ _ _ _ _ us vs w n1 n2
  have e1 : iv m us = x := hW.2.2
  have e2 : nv vs = y := by rw [hV.mag.nv]; omega
  have e3 : makeFF m us vs = none := by
    unfold makeFF
    rw [hW.2.1, hV.right, e1, e2]
    exact makF_small17 hf.1 hf.2.1 hf.2.2
  rw [e3, e1, e2] at hmk
  refine hmk.mono ?_
  intro e w' hh
  exact FT17.ok (P := True) (q := (x, y)) ⟨fun _ => hh, fun e => absurd trivial e⟩ trivial
set_option maxRecDepth 20000 in
theorem x17square_any {x : Int} (h1 : -1099511627776 ≤ x) (h2 : x ≤ 1099511627776) {w : World} {m m2 : Bool} {a a2 : Option Addr} {l c l2 c2 : Nat} (k1 : WAt w m a l c x) (k2 : WAt w m2 a2 l2 c2 x) :
    Calls Tryz.prog 41 #[.agg #[.bool m, .slice a l c], .agg #[.bool m2, .slice a2 l2 c2]] w fun e w' => ∃ q b k n, e = .returned (.tuple #[.agg #[.bool q, .slice b k n], .int .i64 0]) ∧ WAt w' q b k n (x * x) ∧ Below w.heap.size w w' := by
  obtain ⟨us, n1, hW⟩ := k1
  obtain ⟨vs, n2, hV⟩ := k2
  refine (imul_any m m2 _ _ _ _ _ _ _ _ w n1 n2).mono ?_
  rintro e w' ⟨q, b, k, n, ls, err, rfl, hn, hRes, hb⟩
  have this := hRes.got hW.2.1 hV.2.1
  rw [hW.2.2, hV.2.2] at this
  have hbig : ((x * x).natAbs : Int) < 18446744073709551616 ^ 64 := by
    have := sq_size17 h1 h2
    exact Int.lt_of_le_of_lt (show (((x * x).natAbs : Nat) : Int) ≤ 1208925819614629174706176 by omega) (by decide)
  obtain ⟨h3, rfl⟩ := IsW.res this hbig
  exact ⟨q, b, k, n, rfl, ⟨ls, hn, h3⟩, hb⟩
end Go.Proofs.YtchmlfjjgehbkaaGreat

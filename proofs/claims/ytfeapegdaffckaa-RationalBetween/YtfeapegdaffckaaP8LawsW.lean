/-
  The walk of the law on a fraction between its Floor and that and 1.
-/
import Derived.Test.YtfeapegdaffckaaP8LawsO
import Derived.Test.YtfeapegdaffckaaR8Back
import Derived.Deep.RegionWith
import Derived.Deep.RegionHeld3
import Derived.BigRegion
namespace Go.Proofs.Ytfeapegdaffckaa
open Go.RowKit

theorem whole_right {q : Bool} {ss : List Int} {Q : Int} (hW : IsW q ss Q) (hl : ss.length ≤ 16) : rightF q ss [1] = true := by
  refine (rightF_iff q ss [1]).2 ⟨hW.2.1, by decide, by decide, by decide, hl, ?_⟩
  have : nv [1] = 1 := by decide
  rw [this]
  exact Nat.gcd_one_right _
theorem low_cmp {q : Bool} {ss : List Int} {Q : Int} {n : Bool} {xs ys : List Int} (hW : IsW q ss Q) (hl : ss.length ≤ 16) (hx : Digs 18446744073709551616 xs) (hy : Digs 18446744073709551616 ys) (hr : rightF n xs ys = true) (hQ : Q = iv n xs / (nv ys : Int)) : cmpFF q ss [1] n xs ys ≤ 0 := by
  obtain ⟨_, _, hy0, _, _, _⟩ := rightF_parts hx hy hr
  have h1 : nv [1] = 1 := by decide
  unfold cmpFF
  rw [whole_right hW hl, hr, h1, hW.2.2]
  show cmpZ _ _ ≤ 0
  rw [cmpZ_le0]
  have := Int.ediv_mul_le (iv n xs) (show (nv ys : Int) ≠ 0 by omega)
  rw [← hQ] at this
  omega
theorem high_cmp {q : Bool} {ss : List Int} {Q : Int} {n : Bool} {xs ys : List Int} (hW : IsW q ss (Q + 1)) (hl : ss.length ≤ 16) (hx : Digs 18446744073709551616 xs) (hy : Digs 18446744073709551616 ys) (hr : rightF n xs ys = true) (hQ : Q = iv n xs / (nv ys : Int)) : cmpFF n xs ys q ss [1] = -1 := by
  obtain ⟨_, _, hy0, _, _, _⟩ := rightF_parts hx hy hr
  have h1 : nv [1] = 1 := by decide
  unfold cmpFF
  rw [whole_right hW hl, hr, h1, hW.2.2]
  show cmpZ _ _ = -1
  unfold cmpZ
  rw [if_pos]
  have := Int.lt_ediv_add_one_mul_self (iv n xs) (show 0 < (nv ys : Int) by omega)
  rw [← hQ] at this
  omega

set_option maxRecDepth 20000 in
set_option maxHeartbeats 20000000 in
theorem between_walk (hM : MakOk8) (hFl : FlrOk8) (hC : CmpOk8) (n : Bool) (a b : Option Addr) (la ca lb cb : Nat) (xs ys : List Int) (w : World) (h1 : Nums w a la ca xs) (h2 : Nums w b lb cb ys) :
    Calls Try.prog 7 #[.agg #[.bool n, .slice a la ca, .slice b lb cb]] w fun e w' => e = .returned (.bool true) ∧ Below w.heap.size w w' := by
  obtain ⟨V, hVe⟩ : ∃ V, V = w.alloc (.cells #[.bool n, .slice a la ca, .slice b lb cb] 27) := ⟨_, rfl⟩
  have hV := balloc w (.cells #[.bool n, .slice a la ca, .slice b lb cb] 27)
  have CA := Cell3.new w n a b la ca lb cb
  have hz : V.heap.size = w.heap.size + 1 := by rw [hVe]; simp
  rw [← hVe] at hV CA
  have HVe : Hid (V = w.alloc (.cells #[.bool n, .slice a la ca, .slice b lb cb] 27)) := hVe
  replace h1 := h1.below hV
  replace h2 := h2.below hV
  have HF := (show Hid _ from few8_one n _ _ _ _ _ _ _ _ V h1 h2)
  have HZ : Hid (V.heap.size = w.heap.size + 1) := hz
  clear hVe hz
  obtain ⟨c0, c1, c2, -, -, -⟩ := CA
  go_enter Try.func7, Try.ntmps7
  go_wp2_with fail
  rw [← HVe.out, ← HZ.out]
  refine Calls.mono HF.out ?_
  rintro e w1 ⟨q, rfl, hb1⟩
  have hB1 := bthen hV hb1
  replace h1 := h1.below hb1
  replace h2 := h2.below hb1
  replace c0 := bkeep hb1 c0 rfl
  replace c1 := bkeep hb1 c1 rfl
  replace c2 := bkeep hb1 c2 rfl
  clear HF HVe HZ hb1 hV
  cases q with
  | false =>
    clear h1 h2
    go_wp2
    go_ret
    exact ⟨rfl, hB1⟩
  | true =>
    go_wp2_with fail
    refine (awake8_any hM _).mono ?_
    rintro e w2 ⟨rfl, hb2⟩
    have hB2 := bthen hB1 hb2
    replace h1 := h1.below hb2
    replace h2 := h2.below hb2
    replace c0 := bkeep hb2 c0 rfl
    replace c1 := bkeep hb2 c1 rfl
    replace c2 := bkeep hb2 c2 rfl
    clear hB1 hb2 hM
    go_wp2_with fail
    refine (r8right_any n _ _ _ _ _ _ _ _ _ h1 h2).mono ?_
    rintro e w3 ⟨rfl, hb3⟩
    have hB3 := bthen hB2 hb3
    replace h1 := h1.below hb3
    replace h2 := h2.below hb3
    replace c0 := bkeep hb3 c0 rfl
    replace c1 := bkeep hb3 c1 rfl
    replace c2 := bkeep hb3 c2 rfl
    clear hB2 hb3
    cases hr : rightF n xs ys with
    | false =>
      clear h1 h2
      go_wp2
      go_ret
      exact ⟨rfl, hB3⟩
    | true =>
      go_wp2_with fail
      refine (hFl n _ _ _ _ _ _ _ _ _ h1 h2).mono ?_
      rintro e y4 ⟨m4, p4, l4, k4, s4, f4, rfl, U4, t4, z4⟩
      obtain ⟨Q, hQ⟩ : ∃ Q, Q = iv n xs / (nv ys : Int) := ⟨_, rfl⟩
      have hfl : flF n xs ys = none := by unfold flF; rw [hr]; rfl
      rw [hfl, ← hQ] at t4
      rcases t4 with ⟨_, h, _⟩ | ⟨-, hW4, rfl⟩
      · cases h
      have HQ : Hid (Q = iv n xs / (nv ys : Int) ∧ IsW m4 s4 Q ∧ (Q.natAbs : Int) ≤ (18446744073709551616 : Int) ^ 17) := ⟨hQ, hW4, by
        obtain ⟨_, _, hy0, _, hx16, _⟩ := rightF_parts h1.digs h2.digs hr
        have h3 := Int.natAbs_ediv_le_natAbs (iv n xs) (nv ys : Int)
        rw [← hQ] at h3
        have h4 : (18446744073709551616 : Int) ^ 16 ≤ 18446744073709551616 ^ 17 := by decide
        omega⟩
      have a4 := balloc y4 (.cells #[.bool m4, .slice p4 l4 k4] 25)
      have v4 := bthen z4 a4
      have hB4 := bthen hB3 v4
      obtain ⟨d0, d1, -, -⟩ := Cell2.new y4 m4 p4 l4 k4
      replace U4 := U4.below a4
      replace h1 := h1.below v4
      replace h2 := h2.below v4
      replace c0 := bkeep v4 c0 rfl
      replace c1 := bkeep v4 c1 rfl
      replace c2 := bkeep v4 c2 rfl
      have hl4 := U4.hlen
      have x4 := U4.hmax
      have y4c := U4.hcap
      unfold maxLen at x4
      have HL4 : Hid (s4.length = l4) := hl4
      clear hB3 z4 a4 v4 hQ hW4 hfl hFl hl4
      go_upto_region 8 with fail
      generalize y4.alloc (.cells #[.bool m4, .slice p4 l4 k4] 25) = W at *
      generalize y4.heap.size = G at *
      have hGV : G < W.heap.size := World.block_lt_of_cell? _ _ d0
      have HRB : Hid (Below W.heap.size W W) := Below.refl _ _
      have HOf : Hid (∀ wx : World, Below W.heap.size W wx → Calls Try.prog 27 #[.int .i64 1] wx fun e w' => ∃ yb ya yl yc, e = .returned (.agg #[.bool yb, .slice ya yl yc]) ∧ Hid (WAt w' yb ya yl yc 1 ∧ Below W.heap.size W w') ∧ (w'.cell? ⟨G, 0, none⟩ = some (.bool m4) ∧ w'.cell? ⟨G, 1, none⟩ = some (.slice p4 l4 k4)) ∧ G < w'.heap.size ∧ (∀ b o, b < wx.heap.size → w'.cell? ⟨b, o, none⟩ = wx.cell? ⟨b, o, none⟩) ∧ (∀ b o, b < wx.heap.size → w'.frozen? ⟨b, o, none⟩ = wx.frozen? ⟨b, o, none⟩) ∧ (∀ b, b < wx.heap.size → b < w'.heap.size)) := by
        intro wx hbx
        refine (refIOf_any 1 wx (by omega)).mono ?_
        rintro e w' ⟨a', n', c', rfl, hn, hb⟩
        have hb' := bthen hbx hb
        exact ⟨_, _, _, _, rfl, ⟨⟨_, hn, IsW.of (x := 1) (by omega)⟩, hb'⟩, ⟨bkeep hb' d0 rfl, bkeep hb' d1 rfl⟩, Nat.lt_of_lt_of_le hGV hb'.size, bfactsD hb⟩
      have HAd : Hid (∀ (wx : World) yb ya yl yc, WAt wx yb ya yl yc 1 → Below W.heap.size W wx → Calls Try.prog 26 #[.agg #[.bool m4, .slice p4 l4 k4], .agg #[.bool yb, .slice ya yl yc]] wx fun e w' => ∃ mp ma mn mc, e = .returned (.tuple #[.agg #[.bool mp, .slice ma mn mc], .int .i64 0]) ∧ Hid (WAt w' mp ma mn mc (Q + 1) ∧ Below W.heap.size W w') ∧ (w'.cell? ⟨G, 0, none⟩ = some (.bool m4) ∧ w'.cell? ⟨G, 1, none⟩ = some (.slice p4 l4 k4)) ∧ G < w'.heap.size ∧ (∀ b o, b < wx.heap.size → w'.cell? ⟨b, o, none⟩ = wx.cell? ⟨b, o, none⟩) ∧ (∀ b o, b < wx.heap.size → w'.frozen? ⟨b, o, none⟩ = wx.frozen? ⟨b, o, none⟩) ∧ (∀ b, b < wx.heap.size → b < w'.heap.size)) := by
        rintro wx yb ya yl yc ⟨zs, hz, hzW⟩ hbx
        refine (refIAdd_any m4 yb _ _ _ _ _ _ _ _ wx (U4.below hbx) hz).mono ?_
        rintro e w' ⟨q, a', n', c', ls, err, rfl, hn, hRes, hb⟩
        have hb' := bthen hbx hb
        have := hRes.got HQ.out.2.1.2.1 hzW.2.1
        rw [HQ.out.2.1.2.2, hzW.2.2] at this
        obtain ⟨h3, rfl⟩ := IsW.res this (by
          have h4 := HQ.out.2.2
          have h5 : (18446744073709551616 : Int) ^ 17 + 1 < 18446744073709551616 ^ 64 := by decide
          omega)
        exact ⟨_, _, _, _, rfl, ⟨⟨_, hn, h3⟩, hb'⟩, ⟨bkeep hb' d0 rfl, bkeep hb' d1 rfl⟩, Nat.lt_of_lt_of_le hGV hb'.size, bfactsD hb⟩
      go_cut [7] (fun pv wx => ∃ g7, pv = .pointer (some ⟨g7, 0, none⟩) ∧ Fac wx g7 (Q + 1) ∧ Below W.heap.size W wx)
      case first =>
        clear HQ HL4 hB4 h1 h2 c0 c1 c2 U4 hC
        have ne0 := World.new_ne W ⟨G, 0, none⟩ d0
        go_region_held3 (fun w' => w'.cell? ⟨G, 0, none⟩ = some (.bool m4) ∧ w'.cell? ⟨G, 1, none⟩ = some (.slice p4 l4 k4)) (first | go_keep | exact n6 | exact o6 | exact ⟨(put2_other (by omega) _ _).trans o6.1, (put2_other (by omega) _ _).trans o6.2⟩)
          (first
          | (go_at_call 27; with_reducible refine Calls.mono (HOf.out _ ?_) ?_; (focus (repeat (first | exact HRB.out | refine bdrawD ?_ | refine bgrowD ?_ _))); rintro e w3 ⟨yb, ya, yl, yc, rfl, hA, n6, n7, hc3, hf3, hs3⟩; have ne3 := World.new_ne w3 ⟨G, 0, none⟩ n6.1; (try have k30 := hs3 (W.heap.size) (by first | omega | (simp; done) | (simp; omega))); (try have m300 := hc3 (W.heap.size) 0 (by first | omega | (simp; done) | (simp; omega))); (try have f300 := hf3 (W.heap.size) 0 (by first | omega | (simp; done) | (simp; omega))); (try have m301 := hc3 (W.heap.size) 1 (by first | omega | (simp; done) | (simp; omega))); (try have f301 := hf3 (W.heap.size) 1 (by first | omega | (simp; done) | (simp; omega))); clear hc3 hf3 hs3)
          | (go_at_call 26; with_reducible refine Calls.mono (HAd.out _ yb ya yl yc ?_ ?_) ?_; (focus (repeat (first | exact hA.out.1 | refine WAt.drew ?_ | refine WAt.grow ?_ _))); (focus (repeat (first | exact hA.out.2 | refine bdrawD ?_ | refine bgrowD ?_ _))); rintro e w6 ⟨mp, ma, mn, mc, rfl, hM, o6, o7, hc6, hf6, hs6⟩; have ne6 := World.new_ne w6 ⟨G, 0, none⟩ o6.1; (try have k60 := hs6 (W.heap.size) (by first | omega | (simp; done) | (simp; omega))); (try have m600 := hc6 (W.heap.size) 0 (by first | omega | (simp; done) | (simp; omega))); (try have f600 := hf6 (W.heap.size) 0 (by first | omega | (simp; done) | (simp; omega))); (try have m601 := hc6 (W.heap.size) 1 (by first | omega | (simp; done) | (simp; omega))); (try have f601 := hf6 (W.heap.size) 1 (by first | omega | (simp; done) | (simp; omega))); (try have k61 := hs6 (w3.heap.size) (by first | omega | (simp; done) | (simp; omega))); (try have m610 := hc6 (w3.heap.size) 0 (by first | omega | (simp; done) | (simp; omega))); (try have f610 := hf6 (w3.heap.size) 0 (by first | omega | (simp; done) | (simp; omega))); (try have m611 := hc6 (w3.heap.size) 1 (by first | omega | (simp; done) | (simp; omega))); (try have f611 := hf6 (w3.heap.size) 1 (by first | omega | (simp; done) | (simp; omega))); clear hc6 hf6 hs6))
        all_goals
          have hz6 := hM.out.2.size
          have hz3 := hA.out.2.size
          clear HOf HAd HRB
          go_wp2_with fail
          go_meet
          case rel =>
            obtain ⟨⟨ms, hMs, hMW⟩, hbM⟩ := hM.out
            first
              | exact ⟨_, rfl, fac_alloc hMs hMW.2.1 hMW.2.2, bgrowD hbM _⟩
              | (refine ⟨_, rfl, fac_put (q := false) (sa := none) (sn := 0) (sc := 0) ?_ ?_ ?_ ?_ hMs hMW.2.1 hMW.2.2, (hbM.setCell ?_ _).setCell ?_ _⟩
                 · go_simp
                 · go_simp
                 · go_simp
                 · go_simp
                 · first | (simp; done) | (simp; omega)
                 · first | (simp; done) | (simp; omega))
      case rest =>
        obtain ⟨g7, rfl, F7, hbc⟩ := hcut
        have hB5 := bthen hB4 hbc
        replace h1 := h1.below hbc
        replace h2 := h2.below hbc
        replace c0 := bkeep hbc c0 rfl
        replace c1 := bkeep hbc c1 rfl
        replace c2 := bkeep hbc c2 rfl
        replace d0 := bkeep hbc d0 rfl
        replace d1 := bkeep hbc d1 rfl
        replace U4 := U4.below hbc
        clear HOf HAd HRB hB4 hbc hGV
        obtain ⟨m7, p7, l7, k7, s7, ⟨e0, e1⟩, -, U7', hr7, hv7⟩ := F7
        have HW7 : Hid (IsW m7 s7 (Q + 1)) := ⟨U7'.digs, hr7, hv7⟩
        have hl7 := U7'.hlen
        have x7 := U7'.hmax
        have y7c := U7'.hcap
        unfold maxLen at x7
        have HL7 : Hid (s7.length = l7) := hl7
        clear hr7 hv7 hl7
        by_cases q4 : 16 < l4
        · have q4i : (16 : Int) < (l4 : Int) := by omega
          clear h1 h2 U4 U7' HQ HW7 hC
          go_wp2
          go_ret
          exact ⟨by simp, hB5⟩
        have q4i : decide ((16 : Int) < (l4 : Int)) = false := decide_eq_false (by omega)
        by_cases q7 : 16 < l7
        · have q7i : (16 : Int) < (l7 : Int) := by omega
          clear h1 h2 U4 U7' HQ HW7 hC
          go_wp2
          go_ret
          exact ⟨by simp, hB5⟩
        have q7i : decide ((16 : Int) < (l7 : Int)) = false := decide_eq_false (by omega)
        have hlow := low_cmp HQ.out.2.1 (by rw [HL4.out]; omega) h1.digs h2.digs hr HQ.out.1
        have hhigh := high_cmp HW7.out (by rw [HL7.out]; omega) h1.digs h2.digs hr HQ.out.1
        -- the four blocks that are made: 1, low, 1, high
        have b1 := balloc wc (.cells #[.int .u64 1] 42)
        have b2 := balloc (wc.alloc (.cells #[.int .u64 1] 42)) (.cells #[.bool m4, .slice p4 l4 k4, .slice (some ⟨wc.heap.size, 0, none⟩) 1 1] 27)
        have b3 := balloc ((wc.alloc (.cells #[.int .u64 1] 42)).alloc (.cells #[.bool m4, .slice p4 l4 k4, .slice (some ⟨wc.heap.size, 0, none⟩) 1 1] 27)) (.cells #[.int .u64 1] 42)
        have b4 := balloc (((wc.alloc (.cells #[.int .u64 1] 42)).alloc (.cells #[.bool m4, .slice p4 l4 k4, .slice (some ⟨wc.heap.size, 0, none⟩) 1 1] 27)).alloc (.cells #[.int .u64 1] 42)) (.cells #[.bool m7, .slice p7 l7 k7, .slice (some ⟨wc.heap.size + 1 + 1, 0, none⟩) 1 1] 27)
        have o1 := (Nums.lit1 wc 1 (by decide) 42).below (bthen (bthen b2 b3) b4)
        have L := (Cell3.new (wc.alloc (.cells #[.int .u64 1] 42)) m4 p4 (some ⟨wc.heap.size, 0, none⟩) l4 k4 1 1).below (bthen b3 b4)
        have o2 := (Nums.lit1 ((wc.alloc (.cells #[.int .u64 1] 42)).alloc (.cells #[.bool m4, .slice p4 l4 k4, .slice (some ⟨wc.heap.size, 0, none⟩) 1 1] 27)) 1 (by decide) 42).below b4
        have H := Cell3.new (((wc.alloc (.cells #[.int .u64 1] 42)).alloc (.cells #[.bool m4, .slice p4 l4 k4, .slice (some ⟨wc.heap.size, 0, none⟩) 1 1] 27)).alloc (.cells #[.int .u64 1] 42)) m7 p7 (some ⟨wc.heap.size + 1 + 1, 0, none⟩) l7 k7 1 1
        simp only [World.size_alloc] at L o2 H
        have ball := bthen (bthen (bthen b1 b2) b3) b4
        obtain ⟨Z, hZe⟩ : ∃ Z, Z = ((((wc.alloc (.cells #[.int .u64 1] 42)).alloc (.cells #[.bool m4, .slice p4 l4 k4, .slice (some ⟨wc.heap.size, 0, none⟩) 1 1] 27)).alloc (.cells #[.int .u64 1] 42)).alloc (.cells #[.bool m7, .slice p7 l7 k7, .slice (some ⟨wc.heap.size + 1 + 1, 0, none⟩) 1 1] 27)) := ⟨_, rfl⟩
        have HZe : Hid (Z = ((((wc.alloc (.cells #[.int .u64 1] 42)).alloc (.cells #[.bool m4, .slice p4 l4 k4, .slice (some ⟨wc.heap.size, 0, none⟩) 1 1] 27)).alloc (.cells #[.int .u64 1] 42)).alloc (.cells #[.bool m7, .slice p7 l7 k7, .slice (some ⟨wc.heap.size + 1 + 1, 0, none⟩) 1 1] 27))) := hZe
        have e0' := bkeep b1 e0 rfl
        have e1' := bkeep b1 e1 rfl
        have e0b := bkeep (bthen b1 b2) e0 rfl
        have e1b := bkeep (bthen b1 b2) e1 rfl
        have e0c := bkeep (bthen (bthen b1 b2) b3) e0 rfl
        have e1c := bkeep (bthen (bthen b1 b2) b3) e1 rfl
        have hB6 := bthen hB5 ball
        have j1 := h1.below ball
        have j2 := h2.below ball
        have j4 := U4.below ball
        have j7 := U7'.below ball
        have r0 := bkeep ball c0 rfl
        have r1 := bkeep ball c1 rfl
        have r2 := bkeep ball c2 rfl
        rw [← hZe] at o1 o2 hB6 j1 j2 j4 j7
        obtain ⟨u0, u1, u2, -, -, -⟩ := L
        obtain ⟨v0, v1, v2, -, -, -⟩ := H
        have HC1 := (show Hid _ from hC m4 n _ _ _ _ _ _ _ _ _ _ _ _ _ _ _ _ Z j4 o1 j1 j2)
        obtain ⟨t1, ht1⟩ : ∃ t1, t1 = cmpFF m4 s4 [1] n xs ys := ⟨_, rfl⟩
        rw [← ht1] at HC1 hlow
        have KH : Hid (∀ wx, Below Z.heap.size Z wx → Calls Try.prog 18 #[.agg #[.bool n, .slice a la ca, .slice b lb cb], .agg #[.bool m7, .slice p7 l7 k7, .slice (some ⟨wc.heap.size + 1 + 1, 0, none⟩) 1 1]] wx fun e w' => e = .returned (.int .i64 (-1)) ∧ Below wx.heap.size wx w') := fun wx hb => by
          have := hC n m7 _ _ _ _ _ _ _ _ _ _ _ _ _ _ _ _ wx (j1.below hb) (j2.below hb) (j7.below hb) (o2.below hb)
          rw [hhigh] at this
          exact this
        clear hZe ht1 hhigh b1 b2 b3 b4 ball o1 o2 j1 j2 j4 j7 h1 h2 U4 U7' hB5 HQ HW7 HL4 HL7 hC
        go_wp2_with fail
        rw [← HZe.out]
        refine Calls.mono HC1.out ?_
        rintro e w8 ⟨rfl, hb8⟩
        rw [← HZe.out] at r0 r1 r2 v0 v1 v2
        have hB8 := bthen hB6 hb8
        replace r0 := bkeep hb8 r0 rfl
        replace r1 := bkeep hb8 r1 rfl
        replace r2 := bkeep hb8 r2 rfl
        replace v0 := bkeep hb8 v0 rfl
        replace v1 := bkeep hb8 v1 rfl
        replace v2 := bkeep hb8 v2 rfl
        have HK := (show Hid _ from KH.out _ hb8)
        clear HC1 KH hB6 hb8 u0 u1 u2 HZe e0 e1 e0' e1' e0b e1b e0c e1c c0 c1 c2 d0 d1
        go_wp2_with fail
        refine Calls.mono HK.out ?_
        rintro e w9 ⟨rfl, hb9⟩
        have hB9 := bthen hB8 hb9
        clear HK hB8 hb9 r0 r1 r2 v0 v1 v2
        go_wp2
        go_ret
        exact ⟨by simp, hB9⟩
end Go.Proofs.Ytfeapegdaffckaa

/-
  Stage 12's laws: the walks of WireRights, WireEncodes, WireDecodes, WireBack, WireApart. Written by mk/p12a.py.
-/
import Derived.Test.YtnbdbahfekneoaaP12LawsO
namespace Go.Proofs.Ytnbdbahfekneoaa
open Go.RowKit

set_option maxRecDepth 100000 in
set_option maxHeartbeats 6000000 in
theorem rights12_walk (HR : RgtOk12) (HE : EncOk12) (k a b c : Int) (pi : Option Addr) (li ci : Nat) (pr : Option Addr) (lr cr : Nat) (pn : Option Addr) (ln cn : Nat) (ids rows : List Int) (nats : List (List Int)) (w : World) (H : MsgIn w k a b c pi li ci pr lr cr pn ln cn ids rows nats) : Calls Try.prog 3 #[.agg #[.int .i64 k, .int .i64 a, .int .i64 b, .int .i64 c, .slice pi li ci, .slice pr lr cr, .slice pn ln cn]] w fun e w' => e = .returned (.bool true) ∧ Below w.heap.size w w' := by
  obtain ⟨V, hVe⟩ : ∃ V, V = w.alloc (.cells #[.int .i64 k, .int .i64 a, .int .i64 b, .int .i64 c, .slice pi li ci, .slice pr lr cr, .slice pn ln cn] 25) := ⟨_, rfl⟩
  have hV := balloc w (.cells #[.int .i64 k, .int .i64 a, .int .i64 b, .int .i64 c, .slice pi li ci, .slice pr lr cr, .slice pn ln cn] 25)
  have hC := MsgAt.new w k a b c pi pr pn li ci lr cr ln cn
  rw [← hVe] at hV hC
  have HVe : Hid (V = w.alloc (.cells #[.int .i64 k, .int .i64 a, .int .i64 b, .int .i64 c, .slice pi li ci, .slice pr lr cr, .slice pn ln cn] 25)) := hVe
  replace H := H.below hV
  clear hVe
  go_enter Try.func3, Try.ntmps3
  go_wp2_with fail
  rw [← HVe.out]
  obtain ⟨G, hG⟩ : ∃ G, G = w.heap.size := ⟨_, rfl⟩
  rw [← hG] at hC
  rw [← hG]
  clear HVe hG
  refine (awake12 HE V).mono ?_
  rintro e w1 ⟨rfl, hb1⟩
  have hB1 := bthen hV hb1
  replace H := H.below hb1
  replace hC := hC.kept (hb1.block _ hC.lt)
  obtain ⟨⟨c0, c1, c2, c3, c4, c5, c6⟩, -⟩ := hC.cells
  clear hV hb1
  have HRo := (show Hid _ from HR k a b c pi li ci pr lr cr pn ln cn ids rows nats w1 H)
  go_wp2_with fail
  refine Calls.mono HRo.out ?_
  rintro e w2 ⟨r, rfl, hr, hb2⟩
  have hB2 := bthen hB1 hb2
  replace H := H.below hb2
  replace hC := hC.kept (hb2.block _ hC.lt)
  clear c0 c1 c2 c3 c4 c5 c6
  obtain ⟨⟨c0, c1, c2, c3, c4, c5, c6⟩, -⟩ := hC.cells
  clear hB1
  have HDo := (show Hid _ from r12right_any k a b c pi pr pn li ci lr cr ln cn ids rows nats w2 H.ids H.rows H.nats)
  have Hr : Hid (r = true ↔ RightM k a b c ids rows nats) := hr
  clear hr HRo hb2 H
  go_wp2_with fail
  refine Calls.mono HDo.out ?_
  rintro e w3 ⟨s, rfl, hs, hb3⟩
  obtain rfl : r = s := Bool.eq_iff_iff.2 (Hr.out.trans hs.symm)
  have hB3 := bthen hB2 hb3
  have hrr : (r == r) = true := by simp
  clear HDo hb3 hs Hr hB2 hC c0 c1 c2 c3 c4 c5 c6
  go_wp2
  go_ret
  exact ⟨by simp, hB3⟩

set_option maxRecDepth 100000 in
set_option maxHeartbeats 6000000 in
theorem encodes12_walk (HE : EncOk12) (k a b c : Int) (pi : Option Addr) (li ci : Nat) (pr : Option Addr) (lr cr : Nat) (pn : Option Addr) (ln cn : Nat) (ids rows : List Int) (nats : List (List Int)) (w : World) (H : MsgIn w k a b c pi li ci pr lr cr pn ln cn ids rows nats) : Calls Try.prog 4 #[.agg #[.int .i64 k, .int .i64 a, .int .i64 b, .int .i64 c, .slice pi li ci, .slice pr lr cr, .slice pn ln cn]] w fun e w' => e = .returned (.bool true) ∧ Below w.heap.size w w' := by
  obtain ⟨V, hVe⟩ : ∃ V, V = w.alloc (.cells #[.int .i64 k, .int .i64 a, .int .i64 b, .int .i64 c, .slice pi li ci, .slice pr lr cr, .slice pn ln cn] 25) := ⟨_, rfl⟩
  have hV := balloc w (.cells #[.int .i64 k, .int .i64 a, .int .i64 b, .int .i64 c, .slice pi li ci, .slice pr lr cr, .slice pn ln cn] 25)
  have hC := MsgAt.new w k a b c pi pr pn li ci lr cr ln cn
  rw [← hVe] at hV hC
  have HVe : Hid (V = w.alloc (.cells #[.int .i64 k, .int .i64 a, .int .i64 b, .int .i64 c, .slice pi li ci, .slice pr lr cr, .slice pn ln cn] 25)) := hVe
  replace H := H.below hV
  clear hVe
  go_enter Try.func4, Try.ntmps4
  go_wp2_with fail
  rw [← HVe.out]
  obtain ⟨G, hG⟩ : ∃ G, G = w.heap.size := ⟨_, rfl⟩
  rw [← hG] at hC
  rw [← hG]
  clear HVe hG
  refine (awake12 HE V).mono ?_
  rintro e w1 ⟨rfl, hb1⟩
  have hB1 := bthen hV hb1
  replace H := H.below hb1
  replace hC := hC.kept (hb1.block _ hC.lt)
  obtain ⟨⟨c0, c1, c2, c3, c4, c5, c6⟩, -⟩ := hC.cells
  clear hV hb1
  have HRo := (show Hid _ from HE k a b c pi li ci pr lr cr pn ln cn ids rows nats w1 H)
  go_wp2_with fail
  refine Calls.mono HRo.out ?_
  rintro e w2 ⟨xa, xl, xc, xs, xe, rfl, hX, hx, -, hb2⟩
  have hB2 := bthen hB1 hb2
  replace H := H.below hb2
  replace hC := hC.kept (hb2.block _ hC.lt)
  clear c0 c1 c2 c3 c4 c5 c6
  obtain ⟨⟨c0, c1, c2, c3, c4, c5, c6⟩, -⟩ := hC.cells
  clear hB1
  have HDo := (show Hid _ from r12enc_any k a b c pi pr pn li ci lr cr ln cn ids rows nats w2 H.ids H.rows H.nats)
  have HX : Hid (ResWire k a b c ids rows nats xs xe) := hx
  clear hx HRo hb2 H
  go_wp2_with fail
  refine Calls.mono HDo.out ?_
  rintro e w3 ⟨ya, yl, yc, ys, ye, rfl, hY, hy, -, hb3⟩
  obtain ⟨rfl, rfl⟩ := HX.out.unique hy
  have hB3 := bthen hB2 hb3
  obtain ⟨S, hS⟩ : ∃ S, S = strOf xs := ⟨_, rfl⟩
  have q1 := conv_any (hX.below hb3)
  have q2 := conv_any hY
  rw [← hS] at q1 q2
  have hee : (xe == xe) = true := by simp
  clear HDo hb3 hy HX hB2 hC c0 c1 c2 c3 c4 c5 c6 hX hY hS
  go_wp2
  go_ret
  exact ⟨by simp, hB3⟩

set_option maxRecDepth 100000 in
set_option maxHeartbeats 6000000 in
theorem decodes12_walk (HE : EncOk12) (HD : DecOk12) (x : Option Addr) (lx cx : Nat) (L : List Int) (w : World) (H : Byts w x lx cx L) (hnil : x = none → cx = 0) (hlen : lx ≤ 140737488355300) : Calls Try.prog 5 #[.slice x lx cx] w fun e w' => e = .returned (.bool true) ∧ Below w.heap.size w w' := by
  go_enter Try.func5, Try.ntmps5
  go_wp2_with fail
  refine (awake12 HE w).mono ?_
  rintro e w1 ⟨rfl, hb1⟩
  replace H := H.below hb1
  have HDo := (show Hid _ from HD x lx cx L w1 H hnil hlen)
  go_wp2_with fail
  refine Calls.mono HDo.out ?_
  rintro e w2 ⟨k, a, b, c, pi, li, ci, pr, lr, cr, pn, ln, cn, ids, rows, nats, err, rfl, ⟨hI, hR, hN⟩, hx, hb2⟩
  have h2 := balloc w2 (.cells #[.int .i64 k, .int .i64 a, .int .i64 b, .int .i64 c, .slice pi li ci, .slice pr lr cr, .slice pn ln cn] 25)
  have b2 := bthen hb2 h2
  have hB2 := bthen hb1 b2
  replace H := H.below b2
  replace hI := hI.below h2
  replace hR := hR.below h2
  replace hN := hN.below h2
  have hC := MsgAt.new w2 k a b c pi pr pn li ci lr cr ln cn
  have HX : Hid (ResMsg L k a b c ids rows nats err) := hx
  have HRo := (show Hid _ from r12dec_any x lx cx L _ H hnil hlen)
  clear HDo hx hb1 hb2 h2 b2
  go_wp2_with fail
  refine Calls.mono HRo.out ?_
  rintro e w3 ⟨k1, a1, b1, c1, pi1, li1, ci1, pr1, lr1, cr1, pn1, ln1, cn1, ids1, rows1, nats1, err1, rfl, ⟨hI1, hR1, hN1⟩, hy, hb3⟩
  obtain ⟨⟨⟨rfl, rfl, rfl, rfl⟩, rfl, rfl, rfl⟩, rfl⟩ := HX.out.unique hy hN.digs hN1.digs
  have h3 := balloc w3 (.cells #[.int .i64 k, .int .i64 a, .int .i64 b, .int .i64 c, .slice pi1 li1 ci1, .slice pr1 lr1 cr1, .slice pn1 ln1 cn1] 25)
  have b3 := bthen hb3 h3
  have hB3 := bthen hB2 b3
  replace hC := hC.kept (b3.block _ hC.lt)
  have hD := MsgAt.new w3 k a b c pi1 pr1 pn1 li1 ci1 lr1 cr1 ln1 cn1
  obtain ⟨⟨c0, c1, c2, c3, c4, c5, c6⟩, -⟩ := hC.cells
  obtain ⟨⟨d0, d1, d2, d3, d4, d5, d6⟩, -⟩ := hD.cells
  have HSa := (show Hid _ from r12same_any k a b c k a b c pi pr pn pi1 pr1 pn1 li ci lr cr ln cn li1 ci1 lr1 cr1 ln1 cn1 ids rows ids rows nats nats _ (hI.below b3) (hR.below b3) (hN.below b3) (hI1.below h3) (hR1.below h3) (hN1.below h3))
  rw [show sameM k a b c k a b c ids ids rows rows nats nats = true from sameM_iff.2 ⟨⟨rfl, rfl, rfl, rfl⟩, rfl, rfl, rfl⟩] at HSa
  clear HRo HX hy hB2 hb3 h3 b3 hI hR hN hI1 hR1 hN1 H hC hD
  go_wp2_with fail
  refine Calls.mono HSa.out ?_
  rintro e w4 ⟨rfl, hb4⟩
  have hB4 := bthen hB3 hb4
  have hee : (err == err) = true := by simp
  clear HSa hB3 hb4 c0 c1 c2 c3 c4 c5 c6 d0 d1 d2 d3 d4 d5 d6
  go_wp2
  go_ret
  exact ⟨by simp, hB4⟩

set_option maxRecDepth 100000 in
set_option maxHeartbeats 6000000 in
theorem back12_walk (HE : EncOk12) (HD : DecOk12) (k a b c : Int) (pi : Option Addr) (li ci : Nat) (pr : Option Addr) (lr cr : Nat) (pn : Option Addr) (ln cn : Nat) (ids rows : List Int) (nats : List (List Int)) (w : World) (H : MsgIn w k a b c pi li ci pr lr cr pn ln cn ids rows nats) : Calls Try.prog 6 #[.agg #[.int .i64 k, .int .i64 a, .int .i64 b, .int .i64 c, .slice pi li ci, .slice pr lr cr, .slice pn ln cn]] w fun e w' => e = .returned (.bool true) ∧ Below w.heap.size w w' := by
  obtain ⟨V, hVe⟩ : ∃ V, V = w.alloc (.cells #[.int .i64 k, .int .i64 a, .int .i64 b, .int .i64 c, .slice pi li ci, .slice pr lr cr, .slice pn ln cn] 25) := ⟨_, rfl⟩
  have hV := balloc w (.cells #[.int .i64 k, .int .i64 a, .int .i64 b, .int .i64 c, .slice pi li ci, .slice pr lr cr, .slice pn ln cn] 25)
  have hC := MsgAt.new w k a b c pi pr pn li ci lr cr ln cn
  rw [← hVe] at hV hC
  have HVe : Hid (V = w.alloc (.cells #[.int .i64 k, .int .i64 a, .int .i64 b, .int .i64 c, .slice pi li ci, .slice pr lr cr, .slice pn ln cn] 25)) := hVe
  replace H := H.below hV
  clear hVe
  go_enter Try.func6, Try.ntmps6
  go_wp2_with fail
  rw [← HVe.out]
  obtain ⟨G, hG⟩ : ∃ G, G = w.heap.size := ⟨_, rfl⟩
  rw [← hG] at hC
  rw [← hG]
  clear HVe hG
  refine (awake12 HE V).mono ?_
  rintro e w1 ⟨rfl, hb1⟩
  have hB1 := bthen hV hb1
  replace H := H.below hb1
  replace hC := hC.kept (hb1.block _ hC.lt)
  obtain ⟨⟨c0, c1, c2, c3, c4, c5, c6⟩, -⟩ := hC.cells
  clear hV hb1
  have HRo := (show Hid _ from HE k a b c pi li ci pr lr cr pn ln cn ids rows nats w1 H)
  go_wp2_with fail
  refine Calls.mono HRo.out ?_
  rintro e w2 ⟨xa, xl, xc, xs, xe, rfl, hX, hx, ⟨hxn, -⟩, hb2⟩
  have hB2 := bthen hB1 hb2
  replace H := H.below hb2
  replace hC := hC.kept (hb2.block _ hC.lt)
  clear c0 c1 c2 c3 c4 c5 c6
  obtain ⟨⟨c0, c1, c2, c3, c4, c5, c6⟩, -⟩ := hC.cells
  clear hB1
  rcases hx with ⟨r1, r2, r3, rfl⟩ | ⟨-, -, rfl⟩
  rotate_left
  · clear HRo hb2 H hX hC c0 c1 c2 c3 c4 c5 c6 hxn
    go_wp2
    go_ret
    exact ⟨by simp, hB2⟩
  have HX : Hid (RightM k a b c ids rows nats ∧ IsMsg k a b c ids rows nats xs ∧ xs.length ≤ 1048576) := ⟨r1, r2, r3⟩
  have hxl := hX.hlen
  have HDo := (show Hid _ from HD xa xl xc xs w2 hX hxn (by omega))
  clear r1 r2 r3 HRo hb2 hxl hX hxn
  go_wp2_with fail
  refine Calls.mono HDo.out ?_
  rintro e w3 ⟨k1, a1, b1, e1, pi1, li1, ci1, pr1, lr1, cr1, pn1, ln1, cn1, ids1, rows1, nats1, err1, rfl, ⟨hI1, hR1, hN1⟩, hy, hb3⟩
  obtain ⟨⟨⟨rfl, rfl, rfl, rfl⟩, rfl, rfl, rfl⟩, rfl⟩ := hy.unique (.inl ⟨HX.out.1, HX.out.2.1, HX.out.2.2, rfl⟩) hN1.digs H.nats.digs
  have h3 := balloc w3 (.cells #[.int .i64 k1, .int .i64 a1, .int .i64 b1, .int .i64 e1, .slice pi1 li1 ci1, .slice pr1 lr1 cr1, .slice pn1 ln1 cn1] 25)
  have b3 := bthen hb3 h3
  have hB3 := bthen hB2 b3
  replace H := H.below b3
  replace hC := hC.kept (b3.block _ hC.lt)
  have hD := MsgAt.new w3 k1 a1 b1 e1 pi1 pr1 pn1 li1 ci1 lr1 cr1 ln1 cn1
  clear c0 c1 c2 c3 c4 c5 c6
  obtain ⟨⟨c0, c1, c2, c3, c4, c5, c6⟩, -⟩ := hC.cells
  obtain ⟨⟨d0, d1, d2, d3, d4, d5, d6⟩, -⟩ := hD.cells
  have HSa := (show Hid _ from r12same_any k1 a1 b1 e1 k1 a1 b1 e1 pi1 pr1 pn1 pi pr pn li1 ci1 lr1 cr1 ln1 cn1 li ci lr cr ln cn ids1 rows1 ids1 rows1 nats1 nats1 _ (hI1.below h3) (hR1.below h3) (hN1.below h3) H.ids H.rows H.nats)
  rw [show sameM k1 a1 b1 e1 k1 a1 b1 e1 ids1 ids1 rows1 rows1 nats1 nats1 = true from sameM_iff.2 ⟨⟨rfl, rfl, rfl, rfl⟩, rfl, rfl, rfl⟩] at HSa
  clear HDo HX hy hB2 hb3 h3 b3 hI1 hR1 hN1 H hC hD
  go_wp2_with fail
  refine Calls.mono HSa.out ?_
  rintro e w4 ⟨rfl, hb4⟩
  have hB4 := bthen hB3 hb4
  clear HSa hB3 hb4 c0 c1 c2 c3 c4 c5 c6 d0 d1 d2 d3 d4 d5 d6
  go_wp2
  go_ret
  exact ⟨by simp, hB4⟩

set_option maxRecDepth 100000 in
set_option maxHeartbeats 6000000 in
theorem apart12_walk (HE : EncOk12) (k a b c : Int) (pi : Option Addr) (li ci : Nat) (pr : Option Addr) (lr cr : Nat) (pn : Option Addr) (ln cn : Nat) (ids rows : List Int) (nats : List (List Int)) (k1 a1 b1 e1 : Int) (pi1 : Option Addr) (li1 ci1 : Nat) (pr1 : Option Addr) (lr1 cr1 : Nat) (pn1 : Option Addr) (ln1 cn1 : Nat) (ids1 rows1 : List Int) (nats1 : List (List Int)) (w : World) (H : MsgIn w k a b c pi li ci pr lr cr pn ln cn ids rows nats) (K : MsgIn w k1 a1 b1 e1 pi1 li1 ci1 pr1 lr1 cr1 pn1 ln1 cn1 ids1 rows1 nats1) : Calls Try.prog 7 #[.agg #[.int .i64 k, .int .i64 a, .int .i64 b, .int .i64 c, .slice pi li ci, .slice pr lr cr, .slice pn ln cn], .agg #[.int .i64 k1, .int .i64 a1, .int .i64 b1, .int .i64 e1, .slice pi1 li1 ci1, .slice pr1 lr1 cr1, .slice pn1 ln1 cn1]] w fun e w' => e = .returned (.bool true) ∧ Below w.heap.size w w' := by
  obtain ⟨V, hVe⟩ : ∃ V, V = (w.alloc (.cells #[.int .i64 k, .int .i64 a, .int .i64 b, .int .i64 c, .slice pi li ci, .slice pr lr cr, .slice pn ln cn] 25)).alloc (.cells #[.int .i64 k1, .int .i64 a1, .int .i64 b1, .int .i64 e1, .slice pi1 li1 ci1, .slice pr1 lr1 cr1, .slice pn1 ln1 cn1] 25) := ⟨_, rfl⟩
  have hV := bthen (balloc w (.cells #[.int .i64 k, .int .i64 a, .int .i64 b, .int .i64 c, .slice pi li ci, .slice pr lr cr, .slice pn ln cn] 25)) (balloc (w.alloc (.cells #[.int .i64 k, .int .i64 a, .int .i64 b, .int .i64 c, .slice pi li ci, .slice pr lr cr, .slice pn ln cn] 25)) (.cells #[.int .i64 k1, .int .i64 a1, .int .i64 b1, .int .i64 e1, .slice pi1 li1 ci1, .slice pr1 lr1 cr1, .slice pn1 ln1 cn1] 25))
  have hC := (MsgAt.new w k a b c pi pr pn li ci lr cr ln cn).kept (w' := (w.alloc (.cells #[.int .i64 k, .int .i64 a, .int .i64 b, .int .i64 c, .slice pi li ci, .slice pr lr cr, .slice pn ln cn] 25)).alloc (.cells #[.int .i64 k1, .int .i64 a1, .int .i64 b1, .int .i64 e1, .slice pi1 li1 ci1, .slice pr1 lr1 cr1, .slice pn1 ln1 cn1] 25)) ((balloc (w.alloc (.cells #[.int .i64 k, .int .i64 a, .int .i64 b, .int .i64 c, .slice pi li ci, .slice pr lr cr, .slice pn ln cn] 25)) (.cells #[.int .i64 k1, .int .i64 a1, .int .i64 b1, .int .i64 e1, .slice pi1 li1 ci1, .slice pr1 lr1 cr1, .slice pn1 ln1 cn1] 25)).block _ (MsgAt.new w k a b c pi pr pn li ci lr cr ln cn).lt)
  have hD := MsgAt.new (w.alloc (.cells #[.int .i64 k, .int .i64 a, .int .i64 b, .int .i64 c, .slice pi li ci, .slice pr lr cr, .slice pn ln cn] 25)) k1 a1 b1 e1 pi1 pr1 pn1 li1 ci1 lr1 cr1 ln1 cn1
  rw [show (w.alloc (.cells #[.int .i64 k, .int .i64 a, .int .i64 b, .int .i64 c, .slice pi li ci, .slice pr lr cr, .slice pn ln cn] 25)).heap.size = w.heap.size + 1 by simp] at hD
  rw [← hVe] at hV hC hD
  have HVe : Hid (V = (w.alloc (.cells #[.int .i64 k, .int .i64 a, .int .i64 b, .int .i64 c, .slice pi li ci, .slice pr lr cr, .slice pn ln cn] 25)).alloc (.cells #[.int .i64 k1, .int .i64 a1, .int .i64 b1, .int .i64 e1, .slice pi1 li1 ci1, .slice pr1 lr1 cr1, .slice pn1 ln1 cn1] 25)) := hVe
  replace H := H.below hV
  replace K := K.below hV
  clear hVe
  go_enter Try.func7, Try.ntmps7
  go_wp2_with fail
  rw [← HVe.out]
  obtain ⟨G, hG⟩ : ∃ G, G = w.heap.size := ⟨_, rfl⟩
  rw [← hG] at hC hD
  rw [← hG]
  clear HVe hG
  refine (awake12 HE V).mono ?_
  rintro e w1 ⟨rfl, hb1⟩
  have hB1 := bthen hV hb1
  replace H := H.below hb1
  replace K := K.below hb1
  replace hC := hC.kept (hb1.block _ hC.lt)
  replace hD := hD.kept (hb1.block _ hD.lt)
  obtain ⟨⟨c0, c1, c2, c3, c4, c5, c6⟩, -⟩ := hC.cells
  obtain ⟨⟨d0, d1, d2, d3, d4, d5, d6⟩, -⟩ := hD.cells
  clear hV hb1
  have HRo := (show Hid _ from HE k a b c pi li ci pr lr cr pn ln cn ids rows nats w1 H)
  go_wp2_with fail
  refine Calls.mono HRo.out ?_
  rintro e w2 ⟨xa, xl, xc, xs, xe, rfl, hX, hx, -, hb2⟩
  have hB2 := bthen hB1 hb2
  replace H := H.below hb2
  replace K := K.below hb2
  replace hC := hC.kept (hb2.block _ hC.lt)
  replace hD := hD.kept (hb2.block _ hD.lt)
  clear c0 c1 c2 c3 c4 c5 c6 d0 d1 d2 d3 d4 d5 d6
  obtain ⟨⟨c0, c1, c2, c3, c4, c5, c6⟩, -⟩ := hC.cells
  obtain ⟨⟨d0, d1, d2, d3, d4, d5, d6⟩, -⟩ := hD.cells
  clear hB1
  have HX : Hid (ResWire k a b c ids rows nats xs xe) := hx
  clear HRo hx hb2
  have HRo := (show Hid _ from HE k1 a1 b1 e1 pi1 li1 ci1 pr1 lr1 cr1 pn1 ln1 cn1 ids1 rows1 nats1 w2 K)
  go_wp2_with fail
  refine Calls.mono HRo.out ?_
  rintro e w3 ⟨ya, yl, yc, ys, ye, rfl, hY, hy, -, hb3⟩
  replace hX := hX.below hb3
  have hB3 := bthen hB2 hb3
  replace H := H.below hb3
  replace K := K.below hb3
  replace hC := hC.kept (hb3.block _ hC.lt)
  replace hD := hD.kept (hb3.block _ hD.lt)
  clear c0 c1 c2 c3 c4 c5 c6 d0 d1 d2 d3 d4 d5 d6
  obtain ⟨⟨c0, c1, c2, c3, c4, c5, c6⟩, -⟩ := hC.cells
  obtain ⟨⟨d0, d1, d2, d3, d4, d5, d6⟩, -⟩ := hD.cells
  clear hB2
  clear HRo hb3
  rcases HX.out with ⟨r1, r2, r3, rfl⟩ | ⟨-, -, rfl⟩
  rotate_left
  · clear HX hy H K hX hY hC hD c0 c1 c2 c3 c4 c5 c6 d0 d1 d2 d3 d4 d5 d6
    go_wp2
    go_ret
    exact ⟨by simp, hB3⟩
  rcases hy with ⟨s1, s2, s3, rfl⟩ | ⟨-, -, rfl⟩
  rotate_left
  · clear HX r1 r2 r3 H K hX hY hC hD c0 c1 c2 c3 c4 c5 c6 d0 d1 d2 d3 d4 d5 d6
    go_wp2
    go_ret
    exact ⟨by simp, hB3⟩
  have HSa := (show Hid _ from r12same_any k a b c k1 a1 b1 e1 pi pr pn pi1 pr1 pn1 li ci lr cr ln cn li1 ci1 lr1 cr1 ln1 cn1 ids rows ids1 rows1 nats nats1 _ H.ids H.rows H.nats K.ids K.rows K.nats)
  have HS : Hid (sameM k a b c k1 a1 b1 e1 ids ids1 rows rows1 nats nats1 = true ↔ strOf xs = strOf ys) := by
    show _ ↔ _
    rw [sameM_iff]
    constructor
    · rintro ⟨⟨rfl, rfl, rfl, rfl⟩, rfl, rfl, rfl⟩
      rw [r2.unique s2]
    · intro e
      have e' := strOf_inj12 hX.digs hY.digs e
      subst e'
      exact r2.inj s2 r1 s1 H.nats.digs K.nats.digs
  obtain ⟨M, hM⟩ : ∃ M, M = sameM k a b c k1 a1 b1 e1 ids ids1 rows rows1 nats nats1 := ⟨_, rfl⟩
  rw [← hM] at HSa HS
  obtain ⟨S1, hS1⟩ : ∃ S1, S1 = strOf xs := ⟨_, rfl⟩
  obtain ⟨S2, hS2⟩ : ∃ S2, S2 = strOf ys := ⟨_, rfl⟩
  rw [← hS1, ← hS2] at HS
  clear HX r1 r2 r3 s1 s2 s3 H K hC hD hM
  go_wp2_with fail
  refine Calls.mono HSa.out ?_
  rintro e w4 ⟨rfl, hb4⟩
  have hB4 := bthen hB3 hb4
  have q1 := conv_any (hX.below hb4)
  have q2 := conv_any (hY.below hb4)
  rw [← hS1] at q1
  rw [← hS2] at q2
  clear HSa hB3 hb4 hX hY hS1 hS2 c0 c1 c2 c3 c4 c5 c6 d0 d1 d2 d3 d4 d5 d6
  by_cases hS : S1 = S2
  · obtain rfl : M = true := HS.out.2 hS
    subst hS
    clear HS
    go_wp2
    go_ret
    exact ⟨by simp, hB4⟩
  · obtain rfl : M = false := by
      cases M
      · rfl
      · exact absurd (HS.out.1 rfl) hS
    have hSb : (S1.toList == S2.toList) = false := by
      rw [ByteArray.toList_eq, ByteArray.toList_eq, beq_eq_false_iff_ne]
      exact fun e => hS (ByteArray.ext (Array.toList_inj.1 e))
    clear HS
    go_wp2
    go_ret
    exact ⟨by simp, hB4⟩

end Go.Proofs.Ytnbdbahfekneoaa

/-
  The contract of the program's Encode (wire). Written by mk/x12e.py.
-/
import Derived.Test.YtnbdbahfekneoaaX12C
import Derived.Test.YtnbdbahfekneoaaX12D
import Derived.Test.YtnbdbahfekneoaaRef12E
import Derived.Deep.RegionHeld3
namespace Go.Proofs.Ytnbdbahfekneoaa
open Go.RowKit

set_option maxRecDepth 100000 in
set_option maxHeartbeats 12800000 in
theorem x12enc_any (k a b c : Int) (pi : Option Addr) (li ci : Nat) (pr : Option Addr) (lr cr : Nat) (pn : Option Addr) (ln cn : Nat) (ids rows : List Int) (nats : List (List Int)) (w : World) (H : Msg3 w pi li ci pr lr cr pn ln cn ids rows nats) :
    Calls Try.prog 11 #[.agg #[.int .i64 k, .int .i64 a, .int .i64 b, .int .i64 c, .slice pi li ci, .slice pr lr cr, .slice pn ln cn]] w fun e w' => WireT k a b c ids rows nats w e w' := by
  have hV := balloc w (.cells #[.int .i64 k, .int .i64 a, .int .i64 b, .int .i64 c, .slice pi li ci, .slice pr lr cr, .slice pn ln cn] 25)
  have hC := MsgAt.new w k a b c pi pr pn li ci lr cr ln cn
  obtain ⟨V0, hVe⟩ : ∃ V0, V0 = w.alloc (.cells #[.int .i64 k, .int .i64 a, .int .i64 b, .int .i64 c, .slice pi li ci, .slice pr lr cr, .slice pn ln cn] 25) := ⟨_, rfl⟩
  rw [← hVe] at hV hC
  have HVe : Hid (V0 = w.alloc (.cells #[.int .i64 k, .int .i64 a, .int .i64 b, .int .i64 c, .slice pi li ci, .slice pr lr cr, .slice pn ln cn] 25)) := hVe
  replace H := H.below hV
  obtain ⟨G, hG⟩ : ∃ G, G = w.heap.size := ⟨_, rfl⟩
  rw [← hG] at hC
  have HG : Hid (G = w.heap.size) := hG
  clear hVe hG
  obtain ⟨⟨c0, c1, c2, c3, c4, c5, c6⟩, -⟩ := hC.cells
  have HO := (show Hid _ from x12right_any k a b c pi li ci pr lr cr pn ln cn ids rows nats V0 H)
  go_enter Try.func11, Try.ntmps11
  go_upto_region 1 with fail
  rw [← HVe.out, ← HG.out]
  go_wp2_with fail
  refine Calls.mono HO.out ?_
  rintro e V ⟨r, rfl, hr, hb1⟩
  have hB1 := bthen hV hb1
  replace H := H.below hb1
  replace hC := hC.kept (hb1.block _ hC.lt)
  clear c0 c1 c2 c3 c4 c5 c6 HO hb1 hV
  cases r with
  | false =>
    have HF : Hid (ResWire k a b c ids rows nats [] 16) := .inr ⟨fun h => (by have := hr.2 h.1; cases this), rfl, rfl⟩
    clear H hC hr
    go_wp2
    go_ret2
    exact ⟨none, 0, 0, [], 16, rfl, Byts.nil _, HF.out, ⟨fun _ => rfl, fun _ e => (by cases e)⟩, hB1⟩
  | true =>
    have hM := hr.1 rfl
    have HM : Hid (RightM k a b c ids rows nats) := hM
    have p1 := hM.p1
    have p4 := hM.p4
    have hI := H.ids
    have hR := H.rows
    have hN := H.nats
    have e1 := hI.hlen
    have e2 := hR.hlen
    have e3 := hN.hlen
    obtain ⟨K, rfl⟩ : ∃ K : Nat, k = (K : Int) := ⟨k.toNat, by omega⟩
    obtain ⟨A, rfl⟩ : ∃ A : Nat, a = (A : Int) := ⟨a.toNat, by omega⟩
    obtain ⟨B, rfl⟩ : ∃ B : Nat, b = (B : Int) := ⟨b.toNat, by omega⟩
    obtain ⟨C, rfl⟩ : ∃ C : Nat, c = (C : Int) := ⟨c.toNat, by omega⟩
    have hkb : K ≤ 1073741824 ∧ A ≤ 1073741824 ∧ B ≤ 1073741824 ∧ C ≤ 1073741824 := by omega
    have hll : li ≤ 16384 ∧ lr ≤ 16384 ∧ ln ≤ 16384 := by omega
    rw [← nat0_ints hM.p6] at hI
    rw [← nat0_ints (xs := rows) (fun i hi => ⟨(hM.p7 i hi).1, (hM.p7 i hi).2.1⟩)] at hR
    have bI := nat0_le hM.p6
    have bR := nat0_le (xs := rows) (fun i hi => ⟨(hM.p7 i hi).1, (hM.p7 i hi).2.1⟩)
    have HLI : Hid (((nat0 ids).length = li ∧ (nat0 rows).length = lr ∧ nats.length = ln) ∧ ((∀ n, n ∈ nat0 ids → n ≤ 1073741824) ∧ ∀ n, n ∈ nat0 rows → n ≤ 1073741824)) := ⟨⟨by rw [nat0_len]; exact e1, by rw [nat0_len]; exact e2, e3⟩, bI, bR⟩
    have HLS : Hid (Lsts V pi li ci (ints (nat0 ids)) ∧ Lsts V pr lr cr (ints (nat0 rows)) ∧ NRow V pn ln cn nats) := ⟨hI, hR, hN⟩
    obtain ⟨⟨c0, c1, c2, c3, c4, c5, c6⟩, -⟩ := hC.cells
    have HC0 : Hid (MsgAt V G K A B C pi li ci pr lr cr pn ln cn) := hC
    clear hM hr H hI hR hN e1 e2 e3 p1 p4 bI bR hC
    have KEEP : ∀ {wx w' : World}, Below V.heap.size V wx → Below wx.heap.size wx w' → (w'.cell? ⟨G, 0, none⟩ = some (.int .i64 (K : Int)) ∧ w'.cell? ⟨G, 1, none⟩ = some (.int .i64 (A : Int)) ∧ w'.cell? ⟨G, 2, none⟩ = some (.int .i64 (B : Int)) ∧ w'.cell? ⟨G, 3, none⟩ = some (.int .i64 (C : Int)) ∧ w'.cell? ⟨G, 4, none⟩ = some (.slice pi li ci) ∧ w'.cell? ⟨G, 5, none⟩ = some (.slice pr lr cr) ∧ w'.cell? ⟨G, 6, none⟩ = some (.slice pn ln cn)) ∧ Hid (Below wx.heap.size wx w') ∧ Hid (Below V.heap.size V w') := fun hx hb => ⟨⟨bkeep (bthen hx hb) c0 rfl, bkeep (bthen hx hb) c1 rfl, bkeep (bthen hx hb) c2 rfl, bkeep (bthen hx hb) c3 rfl, bkeep (bthen hx hb) c4 rfl, bkeep (bthen hx hb) c5 rfl, bkeep (bthen hx hb) c6 rfl⟩, hb, bthen hx hb⟩
    have HNK : Hid (∀ wx : World, Below V.heap.size V wx → Calls Try.prog 25 #[.int .i64 (K : Int)] wx fun e w' => ∃ va vl vc cd, e = .returned (.slice va vl vc) ∧ Hid (PB w' va vl vc cd) ∧ Hid (IsCode cd K) ∧ (w'.cell? ⟨G, 0, none⟩ = some (.int .i64 (K : Int)) ∧ w'.cell? ⟨G, 1, none⟩ = some (.int .i64 (A : Int)) ∧ w'.cell? ⟨G, 2, none⟩ = some (.int .i64 (B : Int)) ∧ w'.cell? ⟨G, 3, none⟩ = some (.int .i64 (C : Int)) ∧ w'.cell? ⟨G, 4, none⟩ = some (.slice pi li ci) ∧ w'.cell? ⟨G, 5, none⟩ = some (.slice pr lr cr) ∧ w'.cell? ⟨G, 6, none⟩ = some (.slice pn ln cn)) ∧ Hid (Below wx.heap.size wx w') ∧ Hid (Below V.heap.size V w')) := by
      intro wx hbx
      refine (x12num_any K wx (by omega)).mono ?_
      rintro e w' ⟨v, cd, rfl, ho, hc, hb⟩
      obtain ⟨va, vl, vc, rfl, hp⟩ := PB.own ho hc.digs
      exact ⟨_, _, _, cd, rfl, hp, hc, KEEP hbx hb⟩
    have HNA : Hid (∀ wx : World, Below V.heap.size V wx → Calls Try.prog 25 #[.int .i64 (A : Int)] wx fun e w' => ∃ va vl vc cd, e = .returned (.slice va vl vc) ∧ Hid (PB w' va vl vc cd) ∧ Hid (IsCode cd A) ∧ (w'.cell? ⟨G, 0, none⟩ = some (.int .i64 (K : Int)) ∧ w'.cell? ⟨G, 1, none⟩ = some (.int .i64 (A : Int)) ∧ w'.cell? ⟨G, 2, none⟩ = some (.int .i64 (B : Int)) ∧ w'.cell? ⟨G, 3, none⟩ = some (.int .i64 (C : Int)) ∧ w'.cell? ⟨G, 4, none⟩ = some (.slice pi li ci) ∧ w'.cell? ⟨G, 5, none⟩ = some (.slice pr lr cr) ∧ w'.cell? ⟨G, 6, none⟩ = some (.slice pn ln cn)) ∧ Hid (Below wx.heap.size wx w') ∧ Hid (Below V.heap.size V w')) := by
      intro wx hbx
      refine (x12num_any A wx (by omega)).mono ?_
      rintro e w' ⟨v, cd, rfl, ho, hc, hb⟩
      obtain ⟨va, vl, vc, rfl, hp⟩ := PB.own ho hc.digs
      exact ⟨_, _, _, cd, rfl, hp, hc, KEEP hbx hb⟩
    have HNB : Hid (∀ wx : World, Below V.heap.size V wx → Calls Try.prog 25 #[.int .i64 (B : Int)] wx fun e w' => ∃ va vl vc cd, e = .returned (.slice va vl vc) ∧ Hid (PB w' va vl vc cd) ∧ Hid (IsCode cd B) ∧ (w'.cell? ⟨G, 0, none⟩ = some (.int .i64 (K : Int)) ∧ w'.cell? ⟨G, 1, none⟩ = some (.int .i64 (A : Int)) ∧ w'.cell? ⟨G, 2, none⟩ = some (.int .i64 (B : Int)) ∧ w'.cell? ⟨G, 3, none⟩ = some (.int .i64 (C : Int)) ∧ w'.cell? ⟨G, 4, none⟩ = some (.slice pi li ci) ∧ w'.cell? ⟨G, 5, none⟩ = some (.slice pr lr cr) ∧ w'.cell? ⟨G, 6, none⟩ = some (.slice pn ln cn)) ∧ Hid (Below wx.heap.size wx w') ∧ Hid (Below V.heap.size V w')) := by
      intro wx hbx
      refine (x12num_any B wx (by omega)).mono ?_
      rintro e w' ⟨v, cd, rfl, ho, hc, hb⟩
      obtain ⟨va, vl, vc, rfl, hp⟩ := PB.own ho hc.digs
      exact ⟨_, _, _, cd, rfl, hp, hc, KEEP hbx hb⟩
    have HNC : Hid (∀ wx : World, Below V.heap.size V wx → Calls Try.prog 25 #[.int .i64 (C : Int)] wx fun e w' => ∃ va vl vc cd, e = .returned (.slice va vl vc) ∧ Hid (PB w' va vl vc cd) ∧ Hid (IsCode cd C) ∧ (w'.cell? ⟨G, 0, none⟩ = some (.int .i64 (K : Int)) ∧ w'.cell? ⟨G, 1, none⟩ = some (.int .i64 (A : Int)) ∧ w'.cell? ⟨G, 2, none⟩ = some (.int .i64 (B : Int)) ∧ w'.cell? ⟨G, 3, none⟩ = some (.int .i64 (C : Int)) ∧ w'.cell? ⟨G, 4, none⟩ = some (.slice pi li ci) ∧ w'.cell? ⟨G, 5, none⟩ = some (.slice pr lr cr) ∧ w'.cell? ⟨G, 6, none⟩ = some (.slice pn ln cn)) ∧ Hid (Below wx.heap.size wx w') ∧ Hid (Below V.heap.size V w')) := by
      intro wx hbx
      refine (x12num_any C wx (by omega)).mono ?_
      rintro e w' ⟨v, cd, rfl, ho, hc, hb⟩
      obtain ⟨va, vl, vc, rfl, hp⟩ := PB.own ho hc.digs
      exact ⟨_, _, _, cd, rfl, hp, hc, KEEP hbx hb⟩
    have HCo : Hid (∀ (wx : World) (g : Nat) (a0 : Option Addr) (l0 k0 : Nat) (a1 : Option Addr) (l1 k1 : Nat) (a2 : Option Addr) (l2 k2 : Nat) (a3 : Option Addr) (l3 k3 : Nat) (z0 z1 z2 z3 : List Int), Hid (IsCode z0 K) → Hid (IsCode z1 A) → Hid (IsCode z2 B) → Hid (IsCode z3 C) → wx.cell? ⟨g, 0, none⟩ = some (.slice a0 l0 k0) → wx.cell? ⟨g, 1, none⟩ = some (.slice a1 l1 k1) → wx.cell? ⟨g, 2, none⟩ = some (.slice a2 l2 k2) → wx.cell? ⟨g, 3, none⟩ = some (.slice a3 l3 k3) → PB wx a0 l0 k0 z0 → PB wx a1 l1 k1 z1 → PB wx a2 l2 k2 z2 → PB wx a3 l3 k3 z3 → Below V.heap.size V wx → Calls Try.prog 24 #[.slice (some ⟨g, 0, none⟩) 4 4] wx fun e w' => ∃ v M, e = .returned v ∧ Hid (BOwn w' V.heap.size v M ∧ CodesOf [K, A, B, C] M ∧ (M.length ≤ 40 ∧ Digs 256 M)) ∧ (w'.cell? ⟨G, 0, none⟩ = some (.int .i64 (K : Int)) ∧ w'.cell? ⟨G, 1, none⟩ = some (.int .i64 (A : Int)) ∧ w'.cell? ⟨G, 2, none⟩ = some (.int .i64 (B : Int)) ∧ w'.cell? ⟨G, 3, none⟩ = some (.int .i64 (C : Int)) ∧ w'.cell? ⟨G, 4, none⟩ = some (.slice pi li ci) ∧ w'.cell? ⟨G, 5, none⟩ = some (.slice pr lr cr) ∧ w'.cell? ⟨G, 6, none⟩ = some (.slice pn ln cn)) ∧ Hid (Below wx.heap.size wx w') ∧ Hid (Below V.heap.size V w')) := by
      rintro wx g a0 l0 k0 a1 l1 k1 a2 l2 k2 a3 l3 k3 z0 z1 z2 z3 q0 q1 q2 q3 y0 y1 y2 y3 p0 p1 p2 p3 hbx
      have hcat : catL [(a0, l0, k0, z0), (a1, l1, k1, z1), (a2, l2, k2, z2), (a3, l3, k3, z3)] = z0 ++ (z1 ++ (z2 ++ z3)) := by simp [catL]
      have hP : Parts10 wx g [(a0, l0, k0, z0), (a1, l1, k1, z1), (a2, l2, k2, z2), (a3, l3, k3, z3)] := by
        intro i p hp
        match i, hp with
        | 0, hp => cases hp; exact ⟨y0, p0.1, p0.2⟩
        | 1, hp => cases hp; exact ⟨y1, p1.1, p1.2⟩
        | 2, hp => cases hp; exact ⟨y2, p2.1, p2.2⟩
        | 3, hp => cases hp; exact ⟨y3, p3.1, p3.2⟩
        | i + 4, hp => simp at hp
      have l0' := code_10 q0.out (by omega)
      have l1' := code_10 q1.out (by omega)
      have l2' := code_10 q2.out (by omega)
      have l3' := code_10 q3.out (by omega)
      have hle : (z0 ++ (z1 ++ (z2 ++ z3))).length ≤ 40 := by simp only [List.length_append]; omega
      have hpos : 0 < (z0 ++ (z1 ++ (z2 ++ z3))).length := by
        have := q0.out.nonempty
        cases z0 with
        | nil => exact absurd rfl this
        | cons x z => simp
      refine (concat10_any g 4 _ 4 wx rfl (Nat.le_refl _) (by decide) hP (by rw [hcat]; exact hpos) (by rw [hcat]; omega)).mono ?_
      rintro e w' ⟨v, rfl, ho, hb⟩
      rw [hcat] at ho
      exact ⟨v, _, rfl, ⟨ho.base hbx.size, ⟨z0, z1 ++ (z2 ++ z3), q0.out, ⟨z1, z2 ++ z3, q1.out, ⟨z2, z3, q2.out, ⟨z3, [], q3.out, rfl, by simp⟩, rfl⟩, rfl⟩, rfl⟩, hle, q0.out.digs.app9 (q1.out.digs.app9 (q2.out.digs.app9 q3.out.digs))⟩, KEEP hbx hb⟩
    have HRB : Hid (Below V.heap.size V V) := Below.refl _ _
    clear KEEP
    go_wp2_with fail
    go_cut [4] (fun pv wx => ∃ M, BOwn wx V.heap.size pv M ∧ Hid (CodesOf [K, A, B, C] M ∧ (M.length ≤ 40 ∧ Digs 256 M)) ∧ Below V.heap.size V wx)
    case first =>
      clear hB1 hkb hll
      have ne0 := World.new_ne V ⟨G, 0, none⟩ c0
      go_region_held3 (fun w' => (w'.cell? ⟨G, 0, none⟩ = some (.int .i64 (K : Int)) ∧ w'.cell? ⟨G, 1, none⟩ = some (.int .i64 (A : Int)) ∧ w'.cell? ⟨G, 2, none⟩ = some (.int .i64 (B : Int)) ∧ w'.cell? ⟨G, 3, none⟩ = some (.int .i64 (C : Int)) ∧ w'.cell? ⟨G, 4, none⟩ = some (.slice pi li ci) ∧ w'.cell? ⟨G, 5, none⟩ = some (.slice pr lr cr) ∧ w'.cell? ⟨G, 6, none⟩ = some (.slice pn ln cn))) (first | go_keep | exact ⟨n70, n71, n72, n73, n74, n75, n76⟩ | exact ⟨n60, n61, n62, n63, n64, n65, n66⟩ | exact ⟨n50, n51, n52, n53, n54, n55, n56⟩ | exact ⟨n40, n41, n42, n43, n44, n45, n46⟩ | exact ⟨n30, n31, n32, n33, n34, n35, n36⟩)
        (first
        | (go_at_call 25; with_reducible refine Calls.mono (HNK.out _ ?_) ?_; (focus (repeat (first | exact HRB.out | exact hB3.out | exact hB4.out | exact hB5.out | exact hB6.out | refine bdrX' ?_ | refine bgrX ?_ _))); rintro e w3 ⟨a3, l3, k3, z3, rfl, hP3, q3, ⟨n30, n31, n32, n33, n34, n35, n36⟩, hb3, hB3⟩; have ne3 := World.new_ne w3 ⟨G, 0, none⟩ n30)
        | (go_at_call 25; with_reducible refine Calls.mono (HNA.out _ ?_) ?_; (focus (repeat (first | exact HRB.out | exact hB3.out | exact hB4.out | exact hB5.out | exact hB6.out | refine bdrX' ?_ | refine bgrX ?_ _))); rintro e w4 ⟨a4, l4, k4, z4, rfl, hP4, q4, ⟨n40, n41, n42, n43, n44, n45, n46⟩, hb4, hB4⟩; have ne4 := World.new_ne w4 ⟨G, 0, none⟩ n40)
        | (go_at_call 25; with_reducible refine Calls.mono (HNB.out _ ?_) ?_; (focus (repeat (first | exact HRB.out | exact hB3.out | exact hB4.out | exact hB5.out | exact hB6.out | refine bdrX' ?_ | refine bgrX ?_ _))); rintro e w5 ⟨a5, l5, k5, z5, rfl, hP5, q5, ⟨n50, n51, n52, n53, n54, n55, n56⟩, hb5, hB5⟩; have ne5 := World.new_ne w5 ⟨G, 0, none⟩ n50)
        | (go_at_call 25; with_reducible refine Calls.mono (HNC.out _ ?_) ?_; (focus (repeat (first | exact HRB.out | exact hB3.out | exact hB4.out | exact hB5.out | exact hB6.out | refine bdrX' ?_ | refine bgrX ?_ _))); rintro e w6 ⟨a6, l6, k6, z6, rfl, hP6, q6, ⟨n60, n61, n62, n63, n64, n65, n66⟩, hb6, hB6⟩; have ne6 := World.new_ne w6 ⟨G, 0, none⟩ n60)
        | (go_at_call 24; with_reducible refine Calls.mono (HCo.out _ _ a3 l3 k3 a4 l4 k4 a5 l5 k5 a6 l6 k6 z3 z4 z5 z6 q3 q4 q5 q6 ?_ ?_ ?_ ?_ ?_ ?_ ?_ ?_ ?_) ?_; (focus (first | exact cell4_0 _ _ _ _ _ _ | exact cell4s_0 _ _ _ _ _ _ _)); (focus (first | exact cell4_1 _ _ _ _ _ _ | exact cell4s_1 _ _ _ _ _ _ _)); (focus (first | exact cell4_2 _ _ _ _ _ _ | exact cell4s_2 _ _ _ _ _ _ _)); (focus (first | exact cell4_3 _ _ _ _ _ _ | exact cell4s_3 _ _ _ _ _ _ _)); (focus (repeat (first | with_reducible exact hP3.out | with_reducible exact hP4.out | with_reducible exact hP5.out | with_reducible exact hP6.out | with_reducible refine PB.drew ?_ | with_reducible refine PB.grow ?_ _ | with_reducible refine PB.below ?_ hb3.out | with_reducible refine PB.below ?_ hb4.out | with_reducible refine PB.below ?_ hb5.out | with_reducible refine PB.below ?_ hb6.out))); (focus (repeat (first | with_reducible exact hP3.out | with_reducible exact hP4.out | with_reducible exact hP5.out | with_reducible exact hP6.out | with_reducible refine PB.drew ?_ | with_reducible refine PB.grow ?_ _ | with_reducible refine PB.below ?_ hb3.out | with_reducible refine PB.below ?_ hb4.out | with_reducible refine PB.below ?_ hb5.out | with_reducible refine PB.below ?_ hb6.out))); (focus (repeat (first | with_reducible exact hP3.out | with_reducible exact hP4.out | with_reducible exact hP5.out | with_reducible exact hP6.out | with_reducible refine PB.drew ?_ | with_reducible refine PB.grow ?_ _ | with_reducible refine PB.below ?_ hb3.out | with_reducible refine PB.below ?_ hb4.out | with_reducible refine PB.below ?_ hb5.out | with_reducible refine PB.below ?_ hb6.out))); (focus (repeat (first | with_reducible exact hP3.out | with_reducible exact hP4.out | with_reducible exact hP5.out | with_reducible exact hP6.out | with_reducible refine PB.drew ?_ | with_reducible refine PB.grow ?_ _ | with_reducible refine PB.below ?_ hb3.out | with_reducible refine PB.below ?_ hb4.out | with_reducible refine PB.below ?_ hb5.out | with_reducible refine PB.below ?_ hb6.out))); (focus (repeat (first | exact HRB.out | exact hB3.out | exact hB4.out | exact hB5.out | exact hB6.out | refine bdrX' ?_ | refine bgrX ?_ _))); rintro e w7 ⟨v7, M7, rfl, hO7, ⟨n70, n71, n72, n73, n74, n75, n76⟩, hb7, hB7⟩))
      all_goals
        clear HNK HNA HNB HNC HCo HRB
        go_wp2_with fail
        go_meet
        case rel => exact ⟨M7, hO7.out.1, hO7.out.2, hB7.out⟩
    case rest =>
      obtain ⟨M0, hO, HM0, hb2⟩ := hcut
      clear HNK HNA HNB HNC HCo HRB c0 c1 c2 c3 c4 c5 c6
      obtain ⟨a3, l3, k3, rfl, hP3'⟩ := PB.own hO HM0.out.2.2
      have hC := HC0.out.kept (hb2.block _ HC0.out.lt)
      obtain ⟨⟨c0, c1, c2, c3, c4, c5, c6⟩, -⟩ := hC.cells
      have HLW : Hid (Lsts wc pi li ci (ints (nat0 ids)) ∧ Lsts wc pr lr cr (ints (nat0 rows)) ∧ NRow wc pn ln cn nats) := ⟨HLS.out.1.below hb2, HLS.out.2.1.below hb2, HLS.out.2.2.below hb2⟩
      have hB2 := bthen hB1 hb2
      have hP3 : Hid (PB wc a3 l3 k3 M0) := hP3'
      have hb3 : Hid (Below wc.heap.size wc wc) := Below.refl _ _
      clear hO HLS HC0 hC hb2 hB1 hP3'
      obtain ⟨U, hU⟩ : ∃ U, U = wc := ⟨_, rfl⟩
      rw [← hU] at HLW hB2 hP3 hb3 c0 c1 c2 c3 c4 c5 c6
      rw [← hU]
      clear hU
      have KEEP : ∀ {wx w' : World}, Below U.heap.size U wx → Below wx.heap.size wx w' → (w'.cell? ⟨G, 0, none⟩ = some (.int .i64 (K : Int)) ∧ w'.cell? ⟨G, 1, none⟩ = some (.int .i64 (A : Int)) ∧ w'.cell? ⟨G, 2, none⟩ = some (.int .i64 (B : Int)) ∧ w'.cell? ⟨G, 3, none⟩ = some (.int .i64 (C : Int)) ∧ w'.cell? ⟨G, 4, none⟩ = some (.slice pi li ci) ∧ w'.cell? ⟨G, 5, none⟩ = some (.slice pr lr cr) ∧ w'.cell? ⟨G, 6, none⟩ = some (.slice pn ln cn)) ∧ Hid (Below wx.heap.size wx w') ∧ Hid (Below U.heap.size U w') := fun hx hb => ⟨⟨bkeep (bthen hx hb) c0 rfl, bkeep (bthen hx hb) c1 rfl, bkeep (bthen hx hb) c2 rfl, bkeep (bthen hx hb) c3 rfl, bkeep (bthen hx hb) c4 rfl, bkeep (bthen hx hb) c5 rfl, bkeep (bthen hx hb) c6 rfl⟩, hb, bthen hx hb⟩
      have HLi : Hid (∀ wx : World, Below U.heap.size U wx → Calls Try.prog 26 #[.slice pi li ci, .func (.func 25) #[] #[]] wx fun e w' => ∃ va vl vc y, e = .returned (.slice va vl vc) ∧ Hid (PB w' va vl vc y) ∧ Hid (IsLst (nat0 ids) y ∧ y.length ≤ 163850 ∧ Digs 256 y) ∧ (w'.cell? ⟨G, 0, none⟩ = some (.int .i64 (K : Int)) ∧ w'.cell? ⟨G, 1, none⟩ = some (.int .i64 (A : Int)) ∧ w'.cell? ⟨G, 2, none⟩ = some (.int .i64 (B : Int)) ∧ w'.cell? ⟨G, 3, none⟩ = some (.int .i64 (C : Int)) ∧ w'.cell? ⟨G, 4, none⟩ = some (.slice pi li ci) ∧ w'.cell? ⟨G, 5, none⟩ = some (.slice pr lr cr) ∧ w'.cell? ⟨G, 6, none⟩ = some (.slice pn ln cn)) ∧ Hid (Below wx.heap.size wx w') ∧ Hid (Below U.heap.size U w')) := by
        intro wx hbx
        refine (x12li_any pi li ci (nat0 ids) wx (HLW.out.1.below hbx) (by omega) HLI.out.2.1).mono ?_
        rintro e w' ⟨v, y, rfl, ho, hy, hb⟩
        obtain ⟨h1, h2⟩ := lst_len hy (by rw [HLI.out.1.1]; omega) HLI.out.2.1
        obtain ⟨va, vl, vc, rfl, hp⟩ := PB.own ho h2
        exact ⟨_, _, _, y, rfl, hp, ⟨hy, h1, h2⟩, KEEP hbx hb⟩
      have HLr : Hid (∀ wx : World, Below U.heap.size U wx → Calls Try.prog 26 #[.slice pr lr cr, .func (.func 25) #[] #[]] wx fun e w' => ∃ va vl vc y, e = .returned (.slice va vl vc) ∧ Hid (PB w' va vl vc y) ∧ Hid (IsLst (nat0 rows) y ∧ y.length ≤ 163850 ∧ Digs 256 y) ∧ (w'.cell? ⟨G, 0, none⟩ = some (.int .i64 (K : Int)) ∧ w'.cell? ⟨G, 1, none⟩ = some (.int .i64 (A : Int)) ∧ w'.cell? ⟨G, 2, none⟩ = some (.int .i64 (B : Int)) ∧ w'.cell? ⟨G, 3, none⟩ = some (.int .i64 (C : Int)) ∧ w'.cell? ⟨G, 4, none⟩ = some (.slice pi li ci) ∧ w'.cell? ⟨G, 5, none⟩ = some (.slice pr lr cr) ∧ w'.cell? ⟨G, 6, none⟩ = some (.slice pn ln cn)) ∧ Hid (Below wx.heap.size wx w') ∧ Hid (Below U.heap.size U w')) := by
        intro wx hbx
        refine (x12li_any pr lr cr (nat0 rows) wx (HLW.out.2.1.below hbx) (by omega) HLI.out.2.2).mono ?_
        rintro e w' ⟨v, y, rfl, ho, hy, hb⟩
        obtain ⟨h1, h2⟩ := lst_len hy (by rw [HLI.out.1.2.1]; omega) HLI.out.2.2
        obtain ⟨va, vl, vc, rfl, hp⟩ := PB.own ho h2
        exact ⟨_, _, _, y, rfl, hp, ⟨hy, h1, h2⟩, KEEP hbx hb⟩
      have HLn : Hid (∀ wx : World, Below U.heap.size U wx → Calls Try.prog 27 #[.slice pn ln cn, .func (.func 28) #[] #[]] wx fun e w' => ∃ va vl vc y, e = .returned (.slice va vl vc) ∧ Hid (PB w' va vl vc y) ∧ Hid ((∃ bss, NatsB nats bss ∧ IsBlobs bss y) ∧ y.length ≤ 8683530 ∧ Digs 256 y) ∧ (w'.cell? ⟨G, 0, none⟩ = some (.int .i64 (K : Int)) ∧ w'.cell? ⟨G, 1, none⟩ = some (.int .i64 (A : Int)) ∧ w'.cell? ⟨G, 2, none⟩ = some (.int .i64 (B : Int)) ∧ w'.cell? ⟨G, 3, none⟩ = some (.int .i64 (C : Int)) ∧ w'.cell? ⟨G, 4, none⟩ = some (.slice pi li ci) ∧ w'.cell? ⟨G, 5, none⟩ = some (.slice pr lr cr) ∧ w'.cell? ⟨G, 6, none⟩ = some (.slice pn ln cn)) ∧ Hid (Below wx.heap.size wx w') ∧ Hid (Below U.heap.size U w')) := by
        intro wx hbx
        refine (x12ln_any pn ln cn nats wx (HLW.out.2.2.below hbx) (by omega)).mono ?_
        rintro e w' ⟨v, y, bss, rfl, ho, hy, ⟨h2, h1⟩, hb⟩
        obtain ⟨va, vl, vc, rfl, hp⟩ := PB.own ho h2
        exact ⟨_, _, _, y, rfl, hp, ⟨⟨bss, hy⟩, by have := HLI.out.1.2.2; omega, h2⟩, KEEP hbx hb⟩
      have HCo : Hid (∀ (wx : World) (g : Nat) (a0 : Option Addr) (l0 k0 : Nat) (a1 : Option Addr) (l1 k1 : Nat) (a2 : Option Addr) (l2 k2 : Nat) (a3 : Option Addr) (l3 k3 : Nat) (z0 z1 z2 z3 : List Int), Hid (CodesOf [K, A, B, C] z0 ∧ (z0.length ≤ 40 ∧ Digs 256 z0)) → Hid (IsLst (nat0 ids) z1 ∧ z1.length ≤ 163850 ∧ Digs 256 z1) → Hid (IsLst (nat0 rows) z2 ∧ z2.length ≤ 163850 ∧ Digs 256 z2) → Hid ((∃ bss, NatsB nats bss ∧ IsBlobs bss z3) ∧ z3.length ≤ 8683530 ∧ Digs 256 z3) → wx.cell? ⟨g, 0, none⟩ = some (.slice a0 l0 k0) → wx.cell? ⟨g, 1, none⟩ = some (.slice a1 l1 k1) → wx.cell? ⟨g, 2, none⟩ = some (.slice a2 l2 k2) → wx.cell? ⟨g, 3, none⟩ = some (.slice a3 l3 k3) → PB wx a0 l0 k0 z0 → PB wx a1 l1 k1 z1 → PB wx a2 l2 k2 z2 → PB wx a3 l3 k3 z3 → Below U.heap.size U wx → Calls Try.prog 24 #[.slice (some ⟨g, 0, none⟩) 4 4] wx fun e w' => ∃ v M, e = .returned v ∧ Hid (BOwn w' U.heap.size v M ∧ IsMsg K A B C ids rows nats M ∧ (M.length ≤ 9100000 ∧ Digs 256 M)) ∧ (w'.cell? ⟨G, 0, none⟩ = some (.int .i64 (K : Int)) ∧ w'.cell? ⟨G, 1, none⟩ = some (.int .i64 (A : Int)) ∧ w'.cell? ⟨G, 2, none⟩ = some (.int .i64 (B : Int)) ∧ w'.cell? ⟨G, 3, none⟩ = some (.int .i64 (C : Int)) ∧ w'.cell? ⟨G, 4, none⟩ = some (.slice pi li ci) ∧ w'.cell? ⟨G, 5, none⟩ = some (.slice pr lr cr) ∧ w'.cell? ⟨G, 6, none⟩ = some (.slice pn ln cn)) ∧ Hid (Below wx.heap.size wx w') ∧ Hid (Below U.heap.size U w')) := by
        rintro wx g a0 l0 k0 a1 l1 k1 a2 l2 k2 a3 l3 k3 z0 z1 z2 z3 q0 q1 q2 q3 y0 y1 y2 y3 p0 p1 p2 p3 hbx
        have hcat : catL [(a0, l0, k0, z0), (a1, l1, k1, z1), (a2, l2, k2, z2), (a3, l3, k3, z3)] = z0 ++ (z1 ++ (z2 ++ z3)) := by simp [catL]
        have hP : Parts10 wx g [(a0, l0, k0, z0), (a1, l1, k1, z1), (a2, l2, k2, z2), (a3, l3, k3, z3)] := by
          intro i p hp
          match i, hp with
          | 0, hp => cases hp; exact ⟨y0, p0.1, p0.2⟩
          | 1, hp => cases hp; exact ⟨y1, p1.1, p1.2⟩
          | 2, hp => cases hp; exact ⟨y2, p2.1, p2.2⟩
          | 3, hp => cases hp; exact ⟨y3, p3.1, p3.2⟩
          | i + 4, hp => simp at hp
        have l0' := q0.out.2.1
        have l1' := q1.out.2.1
        have l2' := q2.out.2.1
        have l3' := q3.out.2.1
        have hle : (z0 ++ (z1 ++ (z2 ++ z3))).length ≤ 9100000 := by simp only [List.length_append]; omega
        have hpos : 0 < (z0 ++ (z1 ++ (z2 ++ z3))).length := by
          obtain ⟨x, y, hx, -, hxy⟩ := q0.out.1
          have := hx.nonempty
          rw [hxy]
          cases x with
          | nil => exact absurd rfl this
          | cons x z => simp
        obtain ⟨bss, hb1, hb2⟩ := q3.out.1
        refine (concat10_any g 4 _ 4 wx rfl (Nat.le_refl _) (by decide) hP (by rw [hcat]; exact hpos) (by rw [hcat]; omega)).mono ?_
        rintro e w' ⟨v, rfl, ho, hb⟩
        rw [hcat] at ho
        exact ⟨v, _, rfl, ⟨ho.base hbx.size, ⟨bss, hb1, z0, z1, z2, z3, by simpa using q0.out.1, q1.out.1, q2.out.1, hb2, rfl⟩, hle, q0.out.2.2.app9 (q1.out.2.2.app9 (q2.out.2.2.app9 q3.out.2.2))⟩, KEEP hbx hb⟩
      have HRB : Hid (Below U.heap.size U U) := Below.refl _ _
      clear KEEP
      go_wp2_with fail
      go_cut [5] (fun pv wx => ∃ M, BOwn wx U.heap.size pv M ∧ Hid (IsMsg K A B C ids rows nats M ∧ (M.length ≤ 9100000 ∧ Digs 256 M)) ∧ Below U.heap.size U wx)
      case first =>
        clear hB2 hkb hll HLW
        have ne0 := World.new_ne U ⟨G, 0, none⟩ c0
        go_region_held3 (fun w' => (w'.cell? ⟨G, 0, none⟩ = some (.int .i64 (K : Int)) ∧ w'.cell? ⟨G, 1, none⟩ = some (.int .i64 (A : Int)) ∧ w'.cell? ⟨G, 2, none⟩ = some (.int .i64 (B : Int)) ∧ w'.cell? ⟨G, 3, none⟩ = some (.int .i64 (C : Int)) ∧ w'.cell? ⟨G, 4, none⟩ = some (.slice pi li ci) ∧ w'.cell? ⟨G, 5, none⟩ = some (.slice pr lr cr) ∧ w'.cell? ⟨G, 6, none⟩ = some (.slice pn ln cn))) (first | go_keep | exact ⟨n70, n71, n72, n73, n74, n75, n76⟩ | exact ⟨n60, n61, n62, n63, n64, n65, n66⟩ | exact ⟨n50, n51, n52, n53, n54, n55, n56⟩ | exact ⟨n40, n41, n42, n43, n44, n45, n46⟩)
          (first
          | (go_at_call 26; with_reducible refine Calls.mono (HLi.out _ ?_) ?_; (focus (repeat (first | exact HRB.out | exact hB3.out | exact hB4.out | exact hB5.out | exact hB6.out | refine bdrX' ?_ | refine bgrX ?_ _))); rintro e w4 ⟨a4, l4, k4, z4, rfl, hP4, q4, ⟨n40, n41, n42, n43, n44, n45, n46⟩, hb4, hB4⟩; have ne4 := World.new_ne w4 ⟨G, 0, none⟩ n40)
          | (go_at_call 26; with_reducible refine Calls.mono (HLr.out _ ?_) ?_; (focus (repeat (first | exact HRB.out | exact hB3.out | exact hB4.out | exact hB5.out | exact hB6.out | refine bdrX' ?_ | refine bgrX ?_ _))); rintro e w5 ⟨a5, l5, k5, z5, rfl, hP5, q5, ⟨n50, n51, n52, n53, n54, n55, n56⟩, hb5, hB5⟩; have ne5 := World.new_ne w5 ⟨G, 0, none⟩ n50)
          | (go_at_call 27; with_reducible refine Calls.mono (HLn.out _ ?_) ?_; (focus (repeat (first | exact HRB.out | exact hB3.out | exact hB4.out | exact hB5.out | exact hB6.out | refine bdrX' ?_ | refine bgrX ?_ _))); rintro e w6 ⟨a6, l6, k6, z6, rfl, hP6, q6, ⟨n60, n61, n62, n63, n64, n65, n66⟩, hb6, hB6⟩; have ne6 := World.new_ne w6 ⟨G, 0, none⟩ n60)
          | (go_at_call 24; with_reducible refine Calls.mono (HCo.out _ _ a3 l3 k3 a4 l4 k4 a5 l5 k5 a6 l6 k6 M0 z4 z5 z6 HM0 q4 q5 q6 ?_ ?_ ?_ ?_ ?_ ?_ ?_ ?_ ?_) ?_; (focus (first | exact cell4_0 _ _ _ _ _ _ | exact cell4s_0 _ _ _ _ _ _ _)); (focus (first | exact cell4_1 _ _ _ _ _ _ | exact cell4s_1 _ _ _ _ _ _ _)); (focus (first | exact cell4_2 _ _ _ _ _ _ | exact cell4s_2 _ _ _ _ _ _ _)); (focus (first | exact cell4_3 _ _ _ _ _ _ | exact cell4s_3 _ _ _ _ _ _ _)); (focus (repeat (first | with_reducible exact hP3.out | with_reducible exact hP4.out | with_reducible exact hP5.out | with_reducible exact hP6.out | with_reducible refine PB.drew ?_ | with_reducible refine PB.grow ?_ _ | with_reducible refine PB.below ?_ hb3.out | with_reducible refine PB.below ?_ hb4.out | with_reducible refine PB.below ?_ hb5.out | with_reducible refine PB.below ?_ hb6.out))); (focus (repeat (first | with_reducible exact hP3.out | with_reducible exact hP4.out | with_reducible exact hP5.out | with_reducible exact hP6.out | with_reducible refine PB.drew ?_ | with_reducible refine PB.grow ?_ _ | with_reducible refine PB.below ?_ hb3.out | with_reducible refine PB.below ?_ hb4.out | with_reducible refine PB.below ?_ hb5.out | with_reducible refine PB.below ?_ hb6.out))); (focus (repeat (first | with_reducible exact hP3.out | with_reducible exact hP4.out | with_reducible exact hP5.out | with_reducible exact hP6.out | with_reducible refine PB.drew ?_ | with_reducible refine PB.grow ?_ _ | with_reducible refine PB.below ?_ hb3.out | with_reducible refine PB.below ?_ hb4.out | with_reducible refine PB.below ?_ hb5.out | with_reducible refine PB.below ?_ hb6.out))); (focus (repeat (first | with_reducible exact hP3.out | with_reducible exact hP4.out | with_reducible exact hP5.out | with_reducible exact hP6.out | with_reducible refine PB.drew ?_ | with_reducible refine PB.grow ?_ _ | with_reducible refine PB.below ?_ hb3.out | with_reducible refine PB.below ?_ hb4.out | with_reducible refine PB.below ?_ hb5.out | with_reducible refine PB.below ?_ hb6.out))); (focus (repeat (first | exact HRB.out | exact hB3.out | exact hB4.out | exact hB5.out | exact hB6.out | refine bdrX' ?_ | refine bgrX ?_ _))); rintro e w7 ⟨v7, M7, rfl, hO7, ⟨n70, n71, n72, n73, n74, n75, n76⟩, hb7, hB7⟩))
        all_goals
          clear HLi HLr HLn HCo HRB
          go_wp2_with fail
          go_meet
          case rel => exact ⟨M7, hO7.out.1, hO7.out.2, hB7.out⟩
      case rest =>
        obtain ⟨Y, hown, HE, hb4⟩ := hcut
        clear HLi HLr HLn HCo HRB c0 c1 c2 c3 c4 c5 c6 hP3 hb3
        have hYl := HE.out.2.1
        obtain ⟨oa, on, oc, rfl, hOb, qbO, nnO⟩ := hown.fresh HE.out.2.2
        have hol := hOb.hlen
        have hBB := bthen hB2 hb4
        have HOF : Hid (Byts wc oa on oc Y ∧ ((oa = none → oc = 0) ∧ ∀ ad, oa = some ad → 0 < on → w.heap.size ≤ ad.block ∧ IsB wc ad.block)) := ⟨hOb, nil9 nnO, fun ad e h0 => by
          obtain ⟨q, e2, hq, cur, hqc, -⟩ := qbO h0
          rw [e] at e2
          cases e2
          exact ⟨Nat.le_trans hB2.size hq, cur, hqc⟩⟩
        have HYL : Hid (Y.length = on) := hol
        have hoc := hOb.hcap
        have hom := hOb.hmax
        unfold maxLen at hom
        clear hown hOb qbO nnO hol hb4 hB2
        by_cases hbig : 1048576 < on
        · have hbd : (1048576 : Int) < (on : Int) := by omega
          have HF : Hid (ResWire K A B C ids rows nats [] 16) := .inr ⟨fun h => by
            obtain ⟨-, x, hx, hxl⟩ := h
            rw [hx.unique HE.out.1, HYL.out] at hxl
            omega, rfl, rfl⟩
          clear HE
          go_wp2_with fail
          first | exact ⟨none, 0, 0, [], 16, rfl, Byts.nil _, HF.out, ⟨fun _ => rfl, fun _ e => (by cases e)⟩, hBB⟩ | (go_ret2; exact ⟨none, 0, 0, [], 16, rfl, Byts.nil _, HF.out, ⟨fun _ => rfl, fun _ e => (by cases e)⟩, hBB⟩)
        · have hbd : decide ((1048576 : Int) < (on : Int)) = false := decide_eq_false (by omega)
          have HF : Hid (ResWire K A B C ids rows nats Y 0) := .inl ⟨HM.out, HE.out.1, by rw [HYL.out]; omega, rfl⟩
          clear HE
          go_wp2_with fail
          first | exact ⟨oa, on, oc, Y, 0, rfl, HOF.out.1, HF.out, HOF.out.2, hBB⟩ | (go_ret2; exact ⟨oa, on, oc, Y, 0, rfl, HOF.out.1, HF.out, HOF.out.2, hBB⟩)
theorem enc_ok12 : EncOk12 := fun k a b c pi li ci pr lr cr pn ln cn ids rows nats w H => x12enc_any k a b c pi li ci pr lr cr pn ln cn ids rows nats w H.three
end Go.Proofs.Ytnbdbahfekneoaa

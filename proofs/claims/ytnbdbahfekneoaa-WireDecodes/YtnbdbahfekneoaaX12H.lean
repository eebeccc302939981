/-
  The contract of the program's read (wire). Written by mk/x12h.py.
-/
import Derived.Test.YtnbdbahfekneoaaX12C
import Derived.Test.YtnbdbahfekneoaaX12G
import Derived.Deep.RegionHeld3
import Derived.Deep.RegionWith
import Derived.BigRegion
namespace Go.Proofs.Ytnbdbahfekneoaa
open Go.RowKit

theorem CRdQ.np {Q : Nat → Prop} {w : World} {g : Nat} {L : List Int} (h : CRdQ Q w g L) : ¬ Plain w g := by
  obtain ⟨a, l, c, _, h1, _⟩ := h
  exact not_plain h1 (by decide) (by decide) (by decide)
theorem MsgAt.head {w : World} {g : Nat} {k a b c : Int} {pi pr pn : Option Addr} {li ci lr cr ln cn : Nat} (h : MsgAt w g k a b c pi li ci pr lr cr pn ln cn) : Head w g := by
  refine ⟨_, _, h, fun j x => ?_⟩
  match j with
  | 0 => exact ⟨by simp, by simp⟩
  | 1 => exact ⟨by simp, by simp⟩
  | 2 => exact ⟨by simp, by simp⟩
  | 3 => exact ⟨by simp, by simp⟩
  | 4 => exact ⟨by simp, by simp⟩
  | 5 => exact ⟨by simp, by simp⟩
  | 6 => exact ⟨by simp, by simp⟩
  | j + 7 => exact ⟨by simp, by simp⟩
theorem Lsts.four {w : World} {a : Option Addr} {l c : Nat} {n0 n1 n2 n3 : Int} (h : Lsts w a l c [n0, n1, n2, n3]) : l = 4 ∧ 4 ≤ c ∧ c ≤ 9223372036854775807 ∧ ∃ b off, a = some ⟨b, off, none⟩ ∧ w.cell? ⟨b, off, none⟩ = some (.int .i64 n0) ∧ w.cell? ⟨b, off + 1, none⟩ = some (.int .i64 n1) ∧ w.cell? ⟨b, off + 2, none⟩ = some (.int .i64 n2) ∧ w.cell? ⟨b, off + 3, none⟩ = some (.int .i64 n3) := by
  have hl := h.hlen
  have hc := h.hcap
  have hm := h.hmax
  unfold maxLen at hm
  simp at hl
  obtain ⟨b, off, e, k⟩ := h.cells (by omega)
  exact ⟨hl.symm, by omega, by omega, b, off, e, by simpa using k 0 (by omega), by simpa using k 1 (by omega), by simpa using k 2 (by omega), by simpa using k 3 (by omega)⟩
theorem put7_far {w : World} {G q : Nat} {k a b c : Int} {pi pr pn : Option Addr} {li ci lr cr ln cn : Nat} (h : MsgAt w q k a b c pi li ci pr lr cr pn ln cn) (hne : q ≠ G) (x0 x1 x2 x3 x4 x5 x6 : Value) :
    (((((((w.setCell ⟨G, 0, none⟩ x0).setCell ⟨G, 1, none⟩ x1).setCell ⟨G, 2, none⟩ x2).setCell ⟨G, 3, none⟩ x3).setCell ⟨G, 4, none⟩ x4).setCell ⟨G, 5, none⟩ x5).setCell ⟨G, 6, none⟩ x6).drew.cell? ⟨q, 0, none⟩ = some (.int .i64 k) ∧ (((((((w.setCell ⟨G, 0, none⟩ x0).setCell ⟨G, 1, none⟩ x1).setCell ⟨G, 2, none⟩ x2).setCell ⟨G, 3, none⟩ x3).setCell ⟨G, 4, none⟩ x4).setCell ⟨G, 5, none⟩ x5).setCell ⟨G, 6, none⟩ x6).drew.cell? ⟨q, 1, none⟩ = some (.int .i64 a) ∧ (((((((w.setCell ⟨G, 0, none⟩ x0).setCell ⟨G, 1, none⟩ x1).setCell ⟨G, 2, none⟩ x2).setCell ⟨G, 3, none⟩ x3).setCell ⟨G, 4, none⟩ x4).setCell ⟨G, 5, none⟩ x5).setCell ⟨G, 6, none⟩ x6).drew.cell? ⟨q, 2, none⟩ = some (.int .i64 b) ∧ (((((((w.setCell ⟨G, 0, none⟩ x0).setCell ⟨G, 1, none⟩ x1).setCell ⟨G, 2, none⟩ x2).setCell ⟨G, 3, none⟩ x3).setCell ⟨G, 4, none⟩ x4).setCell ⟨G, 5, none⟩ x5).setCell ⟨G, 6, none⟩ x6).drew.cell? ⟨q, 3, none⟩ = some (.int .i64 c) ∧ (((((((w.setCell ⟨G, 0, none⟩ x0).setCell ⟨G, 1, none⟩ x1).setCell ⟨G, 2, none⟩ x2).setCell ⟨G, 3, none⟩ x3).setCell ⟨G, 4, none⟩ x4).setCell ⟨G, 5, none⟩ x5).setCell ⟨G, 6, none⟩ x6).drew.cell? ⟨q, 4, none⟩ = some (.slice pi li ci) ∧ (((((((w.setCell ⟨G, 0, none⟩ x0).setCell ⟨G, 1, none⟩ x1).setCell ⟨G, 2, none⟩ x2).setCell ⟨G, 3, none⟩ x3).setCell ⟨G, 4, none⟩ x4).setCell ⟨G, 5, none⟩ x5).setCell ⟨G, 6, none⟩ x6).drew.cell? ⟨q, 5, none⟩ = some (.slice pr lr cr) ∧ (((((((w.setCell ⟨G, 0, none⟩ x0).setCell ⟨G, 1, none⟩ x1).setCell ⟨G, 2, none⟩ x2).setCell ⟨G, 3, none⟩ x3).setCell ⟨G, 4, none⟩ x4).setCell ⟨G, 5, none⟩ x5).setCell ⟨G, 6, none⟩ x6).drew.cell? ⟨q, 6, none⟩ = some (.slice pn ln cn) := by
  have g := put7_grown w G x0 x1 x2 x3 x4 x5 x6
  generalize (((((((w.setCell ⟨G, 0, none⟩ x0).setCell ⟨G, 1, none⟩ x1).setCell ⟨G, 2, none⟩ x2).setCell ⟨G, 3, none⟩ x3).setCell ⟨G, 4, none⟩ x4).setCell ⟨G, 5, none⟩ x5).setCell ⟨G, 6, none⟩ x6) = W at g ⊢
  have hz : MsgAt W.drew q k a b c pi li ci pr lr cr pn ln cn := h.kept (g.block q h.lt (fun e => hne (by simpa using e)))
  exact hz.cells.1
theorem drew4 (W : World) : W.drew.heap = W.heap ∧ W.drew.os = W.os ∧ W.drew.tape = W.tape ∧ W.drew.output = W.output := ⟨rfl, rfl, rfl, rfl⟩
/-- A message is read. -/
def ReT (L : List Int) (w : World) (g : Nat) (e : Ending) (w' : World) : Prop :=
  ∃ k a b c pi li ci pr lr cr pn ln cn ids rows nats ok, e = .returned (.tuple #[.agg #[.int .i64 k, .int .i64 a, .int .i64 b, .int .i64 c, .slice pi li ci, .slice pr lr cr, .slice pn ln cn], .bool ok]) ∧ (LstG w' pi li ci ids ∧ LstG w' pr lr cr rows ∧ NHd w' w.heap.size (.slice pn ln cn) nats) ∧ w.grownBy w' (some g) ∧ (ok = true → IsMsg k a b c ids rows nats L) ∧
    ∀ k' a' b' c' ids' rows' nats', RightM k' a' b' c' ids' rows' nats' → DigsN nats' → IsMsg k' a' b' c' ids' rows' nats' L → ok = true ∧ (k = k' ∧ a = a' ∧ b = b' ∧ c = c') ∧ ids = ids' ∧ rows = rows' ∧ nats = nats'
theorem nat0_back (ns : List Nat) : nat0 (ints ns) = ns := by
  unfold nat0 ints
  rw [List.map_map]
  exact (List.map_congr_left (fun x _ => by simp)).trans (List.map_id _)
theorem list4 {ns : List Nat} (h : ns.length = 4) : ∃ n0 n1 n2 n3, ns = [n0, n1, n2, n3] := by
  match ns, h with
  | [n0, n1, n2, n3], _ => exact ⟨n0, n1, n2, n3, rfl⟩
/-- Its parts make the message. -/
theorem read_sound {n0 n1 n2 n3 : Nat} {ids rows : List Nat} {nats bss : List (List Int)} {L R0 R1 R2 y0 y1 y2 y3 : List Int} (h0 : CodesOf [n0, n1, n2, n3] y0) (e0 : L = y0 ++ R0) (h1 : IsLst ids y1) (e1 : R0 = y1 ++ R1) (h2 : IsLst rows y2) (e2 : R1 = y2 ++ R2) (h3 : NatsB nats bss) (h4 : IsBlobs bss y3) (e3 : R2 = y3 ++ []) : IsMsg n0 n1 n2 n3 (ints ids) (ints rows) nats L := by
  refine ⟨bss, h3, y0, y1, y2, y3, by simpa using h0, by rw [nat0_back]; exact h1, by rw [nat0_back]; exact h2, h4, ?_⟩
  rw [e0, e1, e2, e3]
  simp

set_option maxRecDepth 100000 in
set_option maxHeartbeats 12800000 in
theorem x12read_any {Q : Nat → Prop} (g : Nat) (L : List Int) (w : World) (h : CRdQ Q w g L) : Calls Try.prog 33 #[.pointer (some ⟨g, 0, none⟩)] w fun e w' => ReT L w g e w' := by
  have hgw := h.lt
  have hV := balloc w (.cells #[.int .i64 0, .int .i64 0, .int .i64 0, .int .i64 0, .slice none 0 0, .slice none 0 0, .slice none 0 0] 25)
  have hM := MsgAt.new w 0 0 0 0 none none none 0 0 0 0 0 0
  obtain ⟨V, hVe⟩ : ∃ V, V = w.alloc (.cells #[.int .i64 0, .int .i64 0, .int .i64 0, .int .i64 0, .slice none 0 0, .slice none 0 0, .slice none 0 0] 25) := ⟨_, rfl⟩
  rw [← hVe] at hV hM
  have HVe : Hid (V = w.alloc (.cells #[.int .i64 0, .int .i64 0, .int .i64 0, .int .i64 0, .slice none 0 0, .slice none 0 0, .slice none 0 0] 25)) := hVe
  obtain ⟨G, hG⟩ : ∃ G, G = w.heap.size := ⟨_, rfl⟩
  rw [← hG] at hM
  have HG : Hid (G = w.heap.size) := hG
  have hgG : g < G := by omega
  have hGV : G < V.heap.size := hM.lt
  replace h := h.below hV
  have HT : Hid (Calls Try.prog 50 #[.pointer (some ⟨g, 0, none⟩), .int .i64 4, .func (.func 51) #[] #[]] V fun e w' => ThT Q L V g 4 e w') := x12th_any g L 4 V h (by decide)
  have hnp := h.np
  have hhd := h.head
  clear h hVe hG
  go_enter Try.func33, Try.ntmps33
  go_upto_region 1 with fail
  rw [← HVe.out, ← HG.out]
  go_wp2_with fail
  refine Calls.mono HT.out ?_
  rintro e w1 ⟨a1, l1, c1, ns, ok, R0, rfl, k1, ⟨k2, k3⟩, ⟨k4, k5⟩, k6, k7, k8, k9⟩
  have hM1 := hM.kept (k7.block G hGV (by simp; omega))
  have hgr1 : w.grownBy w1 (some g) := grown_then (grown_of_below hV (some g)) k7
  clear HT
  cases ok with
  | false =>
    obtain ⟨⟨r0, r1, r2, r3, r4, r5, r6⟩, fz⟩ := hM1.cells
    have f0 := fz 0
    have f1 := fz 1
    have f2 := fz 2
    have f3 := fz 3
    have f4 := fz 4
    have f5 := fz 5
    have f6 := fz 6
    have HE : Hid (ReT L w g (.returned (.tuple #[.agg #[.int .i64 0, .int .i64 0, .int .i64 0, .int .i64 0, .slice none 0 0, .slice none 0 0, .slice none 0 0], .bool false])) (((((((w1.setCell ⟨G, 0, none⟩ (.int .i64 0)).setCell ⟨G, 1, none⟩ (.int .i64 0)).setCell ⟨G, 2, none⟩ (.int .i64 0)).setCell ⟨G, 3, none⟩ (.int .i64 0)).setCell ⟨G, 4, none⟩ (.slice none 0 0)).setCell ⟨G, 5, none⟩ (.slice none 0 0)).setCell ⟨G, 6, none⟩ (.slice none 0 0))) := by
      refine ⟨0, 0, 0, 0, none, 0, 0, none, 0, 0, none, 0, 0, [], [], [], false, rfl, ⟨LstG.nil _, LstG.nil _, NHd.nil _ _⟩, ?_, fun e => (by cases e), fun k' a' b' c' ids' rows' nats' h1 h2 h3 => ?_⟩
      · have q := put7_grown w1 G (.int .i64 0) (.int .i64 0) (.int .i64 0) (.int .i64 0) (.slice none 0 0) (.slice none 0 0) (.slice none 0 0)
        exact ⟨q.os.trans hgr1.os, q.tape.trans hgr1.tape, q.output.trans hgr1.output, Nat.le_trans hgr1.size q.size, fun j hj hne => (q.block j (Nat.lt_of_lt_of_le hj hgr1.size) (by have := HG.out; simp; omega)).trans (hgr1.block j hj hne)⟩
      · obtain ⟨bss, y0, y1, y2, y3, -, ⟨m1, m2, m3⟩, -⟩ := msg_parts h1 h2 h3
        cases (k9 _ _ _ m1 m2 rfl m3).1
    clear fz hM1 hgr1 k1 k2 k3 k4 k5 k6 k7 k8 k9 hM hV hnp hhd
    go_wp2_with fail
    exact bodyPost_ret (v := .tuple #[.agg #[.int .i64 0, .int .i64 0, .int .i64 0, .int .i64 0, .slice none 0 0, .slice none 0 0, .slice none 0 0], .bool false]) (by simp [results, Try.results33, go_sem, r0, r1, r2, r3, r4, r5, r6]) rfl HE.out
  | true =>
    obtain ⟨hns, y0, hy0, eL⟩ := k8 rfl
    obtain ⟨n0, n1, n2, n3, rfl⟩ := list4 hns
    have hgV : g < V.heap.size := by omega
    have LG1 : LstG w1 a1 l1 c1 (ints [n0, n1, n2, n3]) := ⟨k1, fun ad e hp => by obtain ⟨-, cur, hc⟩ := k5 ad e hp; exact ⟨cur, _, hc, .inl rfl⟩⟩
    have H0 : Hid ((CodesOf [n0, n1, n2, n3] y0 ∧ L = y0 ++ R0) ∧ (∀ k' a' b' c' ids' rows' nats', RightM k' a' b' c' ids' rows' nats' → DigsN nats' → IsMsg k' a' b' c' ids' rows' nats' L → ∃ bss y1 y2 y3, NatsB nats' bss ∧ IsLst (nat0 ids') y1 ∧ IsLst (nat0 rows') y2 ∧ IsBlobs bss y3 ∧ [n0, n1, n2, n3] = [k'.toNat, a'.toNat, b'.toNat, c'.toNat] ∧ R0 = y1 ++ (y2 ++ y3))) := ⟨⟨hy0, eL⟩, fun k' a' b' c' ids' rows' nats' h1 h2 h3 => by
      obtain ⟨bss, z0, z1, z2, z3, hb, ⟨m1, m2, m3⟩, ⟨m4, -⟩, ⟨m5, -⟩, ⟨m6, -⟩⟩ := msg_parts h1 h2 h3
      obtain ⟨-, q1, q2⟩ := k9 _ _ _ m1 m2 rfl m3
      exact ⟨bss, z1, z2, z3, hb, m4, m5, m6, q1, q2⟩⟩
    have HB4 : Hid (∀ n, n ∈ [n0, n1, n2, n3] → n ≤ 1073741824) := k2
    clear k1 k2 k3 k4 k5 k7 k8 k9 hM hV hnp hhd hy0 eL hns
    have np1 := k6.np
    have HL1 := (show Hid _ from x12ls_any g R0 w1 k6)
    clear k6
    go_wp2_with fail
    refine Calls.mono HL1.out ?_
    rintro e w2 ⟨pi, li, ci, ids, ok1, R1, rfl, k1, ⟨k2, k3⟩, ⟨k4, k5⟩, k6, k7, k8, k9⟩
    have hM2 := hM1.kept (k7.block G hM1.lt (by simp; omega))
    have hgr2 := grown_then hgr1 k7
    have LG1' := LG1.kp (Kp.grown k7 (fun b e => by cases e; exact np1))
    have LI : LstG w2 pi li ci (ints ids) := ⟨k1, fun ad e hp => by obtain ⟨-, cur, hc⟩ := k5 ad e hp; exact ⟨cur, _, hc, .inl rfl⟩⟩
    have H1 : Hid ((ok1 = true → ∃ y, IsLst ids y ∧ R0 = y ++ R1) ∧ (∀ ms T y, IsLst ms y → R0 = y ++ T → ms.length ≤ 16384 → (∀ m, m ∈ ms → m ≤ 1073741824) → ok1 = true ∧ ids = ms ∧ R1 = T)) := ⟨k8, k9⟩
    have np2 := k6.np
    have HL2 := (show Hid _ from x12ls_any g R1 w2 k6)
    clear k1 k2 k3 k4 k5 k6 k7 k8 k9 hM1 hgr1 LG1 np1 HL1
    go_wp2_with fail
    refine Calls.mono HL2.out ?_
    rintro e w3 ⟨pr, lr, cr, rows, ok2, R2, rfl, k1, ⟨k2, k3⟩, ⟨k4, k5⟩, k6, k7, k8, k9⟩
    have hM3 := hM2.kept (k7.block G hM2.lt (by simp; omega))
    have hgr3 := grown_then hgr2 k7
    have kp3 := Kp.grown k7 (fun b e => by cases e; exact np2)
    have LG2 := LG1'.kp kp3
    have LI2 := LI.kp kp3
    have LR : LstG w3 pr lr cr (ints rows) := ⟨k1, fun ad e hp => by obtain ⟨-, cur, hc⟩ := k5 ad e hp; exact ⟨cur, _, hc, .inl rfl⟩⟩
    have H2 : Hid ((ok2 = true → ∃ y, IsLst rows y ∧ R1 = y ++ R2) ∧ (∀ ms T y, IsLst ms y → R1 = y ++ T → ms.length ≤ 16384 → (∀ m, m ∈ ms → m ≤ 1073741824) → ok2 = true ∧ rows = ms ∧ R2 = T)) := ⟨k8, k9⟩
    have np3 := k6.np
    have HL3 := (show Hid _ from x12lnr_any g R2 w3 k6)
    clear k1 k2 k3 k4 k5 k6 k7 k8 k9 hM2 hgr2 LG1' LI np2 kp3 HL2
    go_wp2_with fail
    refine Calls.mono HL3.out ?_
    rintro e w4 ⟨nv, nats, ok3, R3, rfl, k1, k3, k6, k7, k8, k9⟩
    have hM4 := hM3.kept (k7.block G hM3.lt (by simp; omega))
    have hgr4 := grown_then hgr3 k7
    have kp4 := Kp.grown k7 (fun b e => by cases e; exact np3)
    have LG3 := LG2.kp kp4
    have LI3 := LI2.kp kp4
    have LR3 := LR.kp kp4
    have H3 : Hid ((ok3 = true → ∃ bss y, NatsB nats bss ∧ IsBlobs bss y ∧ R2 = y ++ R3) ∧ (∀ ms bss T y, NatsB ms bss → IsBlobs bss y → R2 = y ++ T → ms.length ≤ 16384 → RgtN ms → DigsN ms → ok3 = true ∧ nats = ms ∧ R3 = T)) := ⟨k8, k9⟩
    have hsz3 := hgr3.size
    obtain ⟨pn, cn, rfl, hNR, -⟩ := k1.row
    obtain ⟨ln, hln⟩ : ∃ ln, ln = nats.length := ⟨_, rfl⟩
    rw [← hln] at k1 hNR
    rw [← hln]
    have hnG : ∀ b, (Value.slice pn ln cn).ownBlock = some b → b ≠ G := fun b e => by have := (k1.own b e).2.1; have := hM3.lt; omega
    obtain ⟨hl4, hc4, hm4, b4, o4, rfl, d0, d1, d2, d3⟩ := Lsts.four (n0 := n0) (n1 := n1) (n2 := n2) (n3 := n3) LG3.lsts
    subst hl4
    have hgw4 : w.heap.size ≤ w4.heap.size := hgr4.size
    have HW : Hid (NHd w4 w3.heap.size (.slice pn ln cn) nats ∧ (CRdQ Q w4 g R3 ∧ w.grownBy w4 (some g)) ∧ LstG w4 pi li ci (ints ids) ∧ LstG w4 pr lr cr (ints rows) ∧ MsgAt w4 G 0 0 0 0 none 0 0 none 0 0 none 0 0 ∧ (∀ b, (Value.slice pn ln cn).ownBlock = some b → b ≠ G) ∧ (G = w.heap.size ∧ g < G ∧ w.heap.size ≤ w4.heap.size ∧ w.heap.size ≤ w3.heap.size)) := ⟨k1, ⟨k6, hgr4⟩, LI3, LR3, hM4, hnG, ⟨HG.out, hgG, hgw4, hsz3⟩⟩
    clear k1 k3 k6 k7 k8 k9 hM3 hgr3 LG2 LI2 LR kp4 HL3 np3 LG3 LI3 LR3 hM4 hNR hln hsz3 hnG hgr4
    go_upto_region 8 with fail
    go_cut [12] (fun pv wx => ∃ q, pv = .pointer (some ⟨q, 0, none⟩) ∧ w4.heap.size ≤ q ∧ MsgAt wx q n0 n1 n2 n3 pi li ci pr lr cr pn ln cn ∧ Below w4.heap.size w4 wx)
    case first =>
      have HN : Hid (MsgAt (w4.alloc (.cells #[.int .i64 (n0 : Int), .int .i64 (n1 : Int), .int .i64 (n2 : Int), .int .i64 (n3 : Int), .slice pi li ci, .slice pr lr cr, .slice pn ln cn] 25)) w4.heap.size n0 n1 n2 n3 pi li ci pr lr cr pn ln cn ∧ Below w4.heap.size w4 (w4.alloc (.cells #[.int .i64 (n0 : Int), .int .i64 (n1 : Int), .int .i64 (n2 : Int), .int .i64 (n3 : Int), .slice pi li ci, .slice pr lr cr, .slice pn ln cn] 25))) := ⟨MsgAt.new w4 n0 n1 n2 n3 pi pr pn li ci lr cr ln cn, balloc _ _⟩
      clear HW H0 H1 H2 H3 HB4
      go_region_held3 (fun w' => w'.cell? ⟨b4, o4, none⟩ = some (.int .i64 (n0 : Int)) ∧ w'.cell? ⟨b4, o4 + 1, none⟩ = some (.int .i64 (n1 : Int)) ∧ w'.cell? ⟨b4, o4 + 2, none⟩ = some (.int .i64 (n2 : Int)) ∧ w'.cell? ⟨b4, o4 + 3, none⟩ = some (.int .i64 (n3 : Int))) (first | go_keep) (fail)
      all_goals
        go_wp2_with fail
        go_meet
        case rel => exact ⟨w4.heap.size, rfl, Nat.le_refl _, HN.out.1.kept rfl, ⟨HN.out.2.os, HN.out.2.tape, HN.out.2.output, HN.out.2.size, HN.out.2.block⟩⟩
    case rest =>
      obtain ⟨q, rfl, hq, hMq, hbc⟩ := hcut
      obtain ⟨⟨m0, m1, m2, m3, m4, m5, m6⟩, -⟩ := hMq.cells
      have hMG := HW.out.2.2.2.2.1.kept (hbc.block G HW.out.2.2.2.2.1.lt)
      obtain ⟨⟨r0, r1, r2, r3, r4, r5, r6⟩, fz⟩ := hMG.cells
      have f0 := fz 0
      have f1 := fz 1
      have f2 := fz 2
      have f3 := fz 3
      have f4 := fz 4
      have f5 := fz 5
      have f6 := fz 6
      have hqG : q ≠ G := by have := HW.out.2.2.2.2.1.lt; omega
      have HLf : Hid (∀ wx : World, wx.heap = wc.heap → wx.os = wc.os → wx.tape = wc.tape → wx.output = wc.output → Calls Try.prog 55 #[.pointer (some ⟨g, 0, none⟩)] wx fun e w' => e = .returned (.int .i64 (R3.length : Int)) ∧ wx = w') := fun wx y1 y2 y3 y4 => by
        have hbx : Below wc.heap.size wc wx := ⟨y2, y3, y4, by rw [y1]; exact Nat.le_refl _, fun _ _ => by rw [y1]⟩
        exact (c9left_any g R3 wx ((HW.out.2.1.1.below hbc).below hbx)).mono fun e w' ⟨h1, h2⟩ => ⟨h1, h2⟩
      have HE : Hid (∀ (wz : World) (ok : Bool), wz.heap = (((((((wc.setCell ⟨G, 0, none⟩ (.int .i64 (n0 : Int))).setCell ⟨G, 1, none⟩ (.int .i64 (n1 : Int))).setCell ⟨G, 2, none⟩ (.int .i64 (n2 : Int))).setCell ⟨G, 3, none⟩ (.int .i64 (n3 : Int))).setCell ⟨G, 4, none⟩ (.slice pi li ci)).setCell ⟨G, 5, none⟩ (.slice pr lr cr)).setCell ⟨G, 6, none⟩ (.slice pn ln cn)).heap → wz.os = (((((((wc.setCell ⟨G, 0, none⟩ (.int .i64 (n0 : Int))).setCell ⟨G, 1, none⟩ (.int .i64 (n1 : Int))).setCell ⟨G, 2, none⟩ (.int .i64 (n2 : Int))).setCell ⟨G, 3, none⟩ (.int .i64 (n3 : Int))).setCell ⟨G, 4, none⟩ (.slice pi li ci)).setCell ⟨G, 5, none⟩ (.slice pr lr cr)).setCell ⟨G, 6, none⟩ (.slice pn ln cn)).os → wz.tape = (((((((wc.setCell ⟨G, 0, none⟩ (.int .i64 (n0 : Int))).setCell ⟨G, 1, none⟩ (.int .i64 (n1 : Int))).setCell ⟨G, 2, none⟩ (.int .i64 (n2 : Int))).setCell ⟨G, 3, none⟩ (.int .i64 (n3 : Int))).setCell ⟨G, 4, none⟩ (.slice pi li ci)).setCell ⟨G, 5, none⟩ (.slice pr lr cr)).setCell ⟨G, 6, none⟩ (.slice pn ln cn)).tape → wz.output = (((((((wc.setCell ⟨G, 0, none⟩ (.int .i64 (n0 : Int))).setCell ⟨G, 1, none⟩ (.int .i64 (n1 : Int))).setCell ⟨G, 2, none⟩ (.int .i64 (n2 : Int))).setCell ⟨G, 3, none⟩ (.int .i64 (n3 : Int))).setCell ⟨G, 4, none⟩ (.slice pi li ci)).setCell ⟨G, 5, none⟩ (.slice pr lr cr)).setCell ⟨G, 6, none⟩ (.slice pn ln cn)).output → (ok = true ↔ (ok1 = true ∧ ok2 = true ∧ ok3 = true ∧ R3.length = 0)) → ReT L w g (.returned (.tuple #[.agg #[.int .i64 (n0 : Int), .int .i64 (n1 : Int), .int .i64 (n2 : Int), .int .i64 (n3 : Int), .slice pi li ci, .slice pr lr cr, .slice pn ln cn], .bool ok])) wz) := fun wz ok y1 y2 y3 y4 hok => by
        have gp := put7_grown wc G (.int .i64 (n0 : Int)) (.int .i64 (n1 : Int)) (.int .i64 (n2 : Int)) (.int .i64 (n3 : Int)) (.slice pi li ci) (.slice pr lr cr) (.slice pn ln cn)
        have gz : wc.grownBy wz (some G) := ⟨y2.trans gp.os, y3.trans gp.tape, y4.trans gp.output, by rw [y1]; exact gp.size, fun k hk hne => by rw [y1]; exact gp.block k hk hne⟩
        have kpz := (Kp.below hbc).trans (Kp.grown gz (fun b e => by cases e; exact hMG.plain))
        have nz := (HW.out.1.below hbc).head gz hMG.head HW.out.2.2.2.2.2.1
        refine ⟨n0, n1, n2, n3, pi, li, ci, pr, lr, cr, pn, ln, cn, ints ids, ints rows, nats, ok, rfl, ⟨HW.out.2.2.1.kp kpz, HW.out.2.2.2.1.kp kpz, nz.base HW.out.2.2.2.2.2.2.2.2.2⟩, ?_, fun e => ?_, fun k' a' b' c' ids' rows' nats' h1 h2 h3 => ?_⟩
        · have g4 := HW.out.2.1.2
          have gc := grown_low g4 (hbc.mono g4.size)
          exact ⟨gz.os.trans gc.os, gz.tape.trans gc.tape, gz.output.trans gc.output, Nat.le_trans gc.size gz.size, fun j hj hne => (gz.block j (Nat.lt_of_lt_of_le hj gc.size) (by have := HW.out.2.2.2.2.2.2.1; simp; omega)).trans (gc.block j hj hne)⟩
        · obtain ⟨e1, e2, e3, e4⟩ := hok.1 e
          obtain ⟨z1, p1, p2⟩ := H1.out.1 e1
          obtain ⟨z2, p3, p4⟩ := H2.out.1 e2
          obtain ⟨bss, z3, p5, p6, p7⟩ := H3.out.1 e3
          rw [List.eq_nil_of_length_eq_zero e4] at p7
          exact read_sound H0.out.1.1 H0.out.1.2 p1 p2 p3 p4 p5 p6 p7
        · obtain ⟨bss, z1, z2, z3, hb, m4', m5', m6', q1, q2⟩ := H0.out.2 _ _ _ _ _ _ _ h1 h2 h3
          have p1 := h1.p1
          have p4 := h1.p4
          obtain ⟨x1, x2, x3⟩ := H1.out.2 _ _ _ m4' q2 (by rw [nat0_len]; omega) (nat0_le h1.p6)
          obtain ⟨x4, x5, x6⟩ := H2.out.2 _ _ _ m5' x3 (by rw [nat0_len]; omega) (nat0_le (fun i hi => ⟨(h1.p7 i hi).1, (h1.p7 i hi).2.1⟩))
          obtain ⟨x7, x8, x9⟩ := H3.out.2 nats' bss [] z3 hb m6' (by rw [List.append_nil]; exact x6) (by omega) h1.p8 h2
          simp at q1
          refine ⟨hok.2 ⟨x1, x4, x7, by rw [x9]; rfl⟩, ⟨by omega, by omega, by omega, by omega⟩, ?_, ?_, x8⟩
          · rw [x2, nat0_ints h1.p6]
          · rw [x5, nat0_ints (fun i hi => ⟨(h1.p7 i hi).1, (h1.p7 i hi).2.1⟩)]
      have HKS : Hid ((((((((wc.setCell ⟨G, 0, none⟩ (.int .i64 (n0 : Int))).setCell ⟨G, 1, none⟩ (.int .i64 (n1 : Int))).setCell ⟨G, 2, none⟩ (.int .i64 (n2 : Int))).setCell ⟨G, 3, none⟩ (.int .i64 (n3 : Int))).setCell ⟨G, 4, none⟩ (.slice pi li ci)).setCell ⟨G, 5, none⟩ (.slice pr lr cr)).setCell ⟨G, 6, none⟩ (.slice pn ln cn)).drew.cell? ⟨q, 0, none⟩ = some (.int .i64 (n0 : Int)) ∧ (((((((wc.setCell ⟨G, 0, none⟩ (.int .i64 (n0 : Int))).setCell ⟨G, 1, none⟩ (.int .i64 (n1 : Int))).setCell ⟨G, 2, none⟩ (.int .i64 (n2 : Int))).setCell ⟨G, 3, none⟩ (.int .i64 (n3 : Int))).setCell ⟨G, 4, none⟩ (.slice pi li ci)).setCell ⟨G, 5, none⟩ (.slice pr lr cr)).setCell ⟨G, 6, none⟩ (.slice pn ln cn)).drew.cell? ⟨q, 1, none⟩ = some (.int .i64 (n1 : Int)) ∧ (((((((wc.setCell ⟨G, 0, none⟩ (.int .i64 (n0 : Int))).setCell ⟨G, 1, none⟩ (.int .i64 (n1 : Int))).setCell ⟨G, 2, none⟩ (.int .i64 (n2 : Int))).setCell ⟨G, 3, none⟩ (.int .i64 (n3 : Int))).setCell ⟨G, 4, none⟩ (.slice pi li ci)).setCell ⟨G, 5, none⟩ (.slice pr lr cr)).setCell ⟨G, 6, none⟩ (.slice pn ln cn)).drew.cell? ⟨q, 2, none⟩ = some (.int .i64 (n2 : Int)) ∧ (((((((wc.setCell ⟨G, 0, none⟩ (.int .i64 (n0 : Int))).setCell ⟨G, 1, none⟩ (.int .i64 (n1 : Int))).setCell ⟨G, 2, none⟩ (.int .i64 (n2 : Int))).setCell ⟨G, 3, none⟩ (.int .i64 (n3 : Int))).setCell ⟨G, 4, none⟩ (.slice pi li ci)).setCell ⟨G, 5, none⟩ (.slice pr lr cr)).setCell ⟨G, 6, none⟩ (.slice pn ln cn)).drew.cell? ⟨q, 3, none⟩ = some (.int .i64 (n3 : Int)) ∧ (((((((wc.setCell ⟨G, 0, none⟩ (.int .i64 (n0 : Int))).setCell ⟨G, 1, none⟩ (.int .i64 (n1 : Int))).setCell ⟨G, 2, none⟩ (.int .i64 (n2 : Int))).setCell ⟨G, 3, none⟩ (.int .i64 (n3 : Int))).setCell ⟨G, 4, none⟩ (.slice pi li ci)).setCell ⟨G, 5, none⟩ (.slice pr lr cr)).setCell ⟨G, 6, none⟩ (.slice pn ln cn)).drew.cell? ⟨q, 4, none⟩ = some (.slice pi li ci) ∧ (((((((wc.setCell ⟨G, 0, none⟩ (.int .i64 (n0 : Int))).setCell ⟨G, 1, none⟩ (.int .i64 (n1 : Int))).setCell ⟨G, 2, none⟩ (.int .i64 (n2 : Int))).setCell ⟨G, 3, none⟩ (.int .i64 (n3 : Int))).setCell ⟨G, 4, none⟩ (.slice pi li ci)).setCell ⟨G, 5, none⟩ (.slice pr lr cr)).setCell ⟨G, 6, none⟩ (.slice pn ln cn)).drew.cell? ⟨q, 5, none⟩ = some (.slice pr lr cr) ∧ (((((((wc.setCell ⟨G, 0, none⟩ (.int .i64 (n0 : Int))).setCell ⟨G, 1, none⟩ (.int .i64 (n1 : Int))).setCell ⟨G, 2, none⟩ (.int .i64 (n2 : Int))).setCell ⟨G, 3, none⟩ (.int .i64 (n3 : Int))).setCell ⟨G, 4, none⟩ (.slice pi li ci)).setCell ⟨G, 5, none⟩ (.slice pr lr cr)).setCell ⟨G, 6, none⟩ (.slice pn ln cn)).drew.cell? ⟨q, 6, none⟩ = some (.slice pn ln cn)) := put7_far hMq hqG (.int .i64 (n0 : Int)) (.int .i64 (n1 : Int)) (.int .i64 (n2 : Int)) (.int .i64 (n3 : Int)) (.slice pi li ci) (.slice pr lr cr) (.slice pn ln cn)
      have HEd : Hid (∀ ok : Bool, (ok = true ↔ (ok1 = true ∧ ok2 = true ∧ ok3 = true ∧ R3.length = 0)) → ReT L w g (.returned (.tuple #[.agg #[.int .i64 (n0 : Int), .int .i64 (n1 : Int), .int .i64 (n2 : Int), .int .i64 (n3 : Int), .slice pi li ci, .slice pr lr cr, .slice pn ln cn], .bool ok])) (((((((wc.setCell ⟨G, 0, none⟩ (.int .i64 (n0 : Int))).setCell ⟨G, 1, none⟩ (.int .i64 (n1 : Int))).setCell ⟨G, 2, none⟩ (.int .i64 (n2 : Int))).setCell ⟨G, 3, none⟩ (.int .i64 (n3 : Int))).setCell ⟨G, 4, none⟩ (.slice pi li ci)).setCell ⟨G, 5, none⟩ (.slice pr lr cr)).setCell ⟨G, 6, none⟩ (.slice pn ln cn)).drew) := fun ok hok => HE.out _ ok (drew4 _).1 (drew4 _).2.1 (drew4 _).2.2.1 (drew4 _).2.2.2 hok
      clear HE HW H0 H1 H2 H3 HB4 hMG hMq fz hbc
      cases ok1 with
      | false =>
        clear HLf
        go_wp2_with fail
        refine wp_region_noPanic ?_
        refine wp_region_held_drew (S := (fun w' : World => w'.cell? ⟨q, 0, none⟩ = some (.int .i64 (n0 : Int)) ∧ w'.cell? ⟨q, 1, none⟩ = some (.int .i64 (n1 : Int)) ∧ w'.cell? ⟨q, 2, none⟩ = some (.int .i64 (n2 : Int)) ∧ w'.cell? ⟨q, 3, none⟩ = some (.int .i64 (n3 : Int)) ∧ w'.cell? ⟨q, 4, none⟩ = some (.slice pi li ci) ∧ w'.cell? ⟨q, 5, none⟩ = some (.slice pr lr cr) ∧ w'.cell? ⟨q, 6, none⟩ = some (.slice pn ln cn))) (by kernel_rfl) ⟨m0, m1, m2, m3, m4, m5, m6⟩ (fun hHeld => ?_)
        refine' wpAnyH_take (i := 0) (oi := { dst := some 52, op := Op.load 25 (Operand.tmp 12), type := 25, pos := "read.go:22", after := #[], guard := none }) (v := _) rfl (by kernel_rfl) (by kernel_rfl) (by kernel_rfl) (fun _ _ _ h => h) (Or.inl ⟨by rfl, ?hya0⟩) hHeld ?resta0
        case hya0 =>
          intro w' hSw
          try dsimp only at hSw
          go_simp
          try with_reducible rfl
        try simp only [Act.put, List.setIfInBounds_toArray, List.set_cons_zero, List.set_cons_succ]
        refine' wpAnyH_take (i := 1) (oi := { dst := some 53, op := Op.move (Operand.tmp 7), type := 4, pos := "read.go:22", after := #[], guard := none }) (v := _) rfl (by kernel_rfl) (by kernel_rfl) (by kernel_rfl) (fun _ _ _ h => h) (Or.inl ⟨by rfl, ?hya1⟩) hHeld ?resta1
        case hya1 =>
          intro w' hSw
          try dsimp only at hSw
          go_simp
          try with_reducible rfl
        try simp only [Act.put, List.setIfInBounds_toArray, List.set_cons_zero, List.set_cons_succ]
        refine' wpAnyH_take (i := 2) (oi := { dst := some 54, op := Op.move (Operand.tmp 53), type := 4, pos := "read.go:22", after := #[{ on := 1, ground := Ground.data }], guard := none }) (v := _) rfl (by kernel_rfl) (by kernel_rfl) (by kernel_rfl) (fun _ _ _ h => h) (Or.inl ⟨by rfl, ?hya2⟩) hHeld ?resta2
        case hya2 =>
          intro w' hSw
          try dsimp only at hSw
          go_simp
          try with_reducible rfl
        try simp only [Act.put, List.setIfInBounds_toArray, List.set_cons_zero, List.set_cons_succ]
        refine wpAnyH_take (i := 3) (oi := { dst := some 55, op := Op.move (Operand.tmp 9), type := 4, pos := "read.go:22", after := #[{ on := 2, ground := Ground.guard }], guard := some (2, true) }) (v := undef) rfl (by kernel_rfl) (by kernel_rfl) (by kernel_rfl) (fun _ _ _ h => h) (Or.inr ⟨by rfl, rfl⟩) hHeld ?_
        try simp only [Act.put, List.setIfInBounds_toArray, List.set_cons_zero, List.set_cons_succ]
        refine' wpAnyH_take (i := 4) (oi := { dst := some 56, op := Op.pick (Operand.tmp 54) (Operand.tmp 55) (Operand.const (Value.bool false)), type := 4, pos := "read.go:22", after := #[{ on := 2, ground := Ground.data }, { on := 3, ground := Ground.data }], guard := none }) (v := _) rfl (by kernel_rfl) (by kernel_rfl) (by kernel_rfl) (fun _ _ _ h => h) (Or.inl ⟨by rfl, ?hya4⟩) hHeld ?resta4
        case hya4 =>
          intro w' hSw
          try dsimp only at hSw
          go_simp
          try with_reducible rfl
        try simp only [Act.put, List.setIfInBounds_toArray, List.set_cons_zero, List.set_cons_succ]
        refine' wpAnyH_take (i := 5) (oi := { dst := some 57, op := Op.move (Operand.tmp 56), type := 4, pos := "read.go:22", after := #[{ on := 4, ground := Ground.data }, { on := 2, ground := Ground.chain }], guard := none }) (v := _) rfl (by kernel_rfl) (by kernel_rfl) (by kernel_rfl) (fun _ _ _ h => h) (Or.inl ⟨by rfl, ?hya5⟩) hHeld ?resta5
        case hya5 =>
          intro w' hSw
          try dsimp only at hSw
          go_simp
          try with_reducible rfl
        try simp only [Act.put, List.setIfInBounds_toArray, List.set_cons_zero, List.set_cons_succ]
        refine wpAnyH_take (i := 6) (oi := { dst := some 58, op := Op.move (Operand.tmp 11), type := 4, pos := "read.go:22", after := #[{ on := 5, ground := Ground.guard }], guard := some (5, true) }) (v := undef) rfl (by kernel_rfl) (by kernel_rfl) (by kernel_rfl) (fun _ _ _ h => h) (Or.inr ⟨by rfl, rfl⟩) hHeld ?_
        try simp only [Act.put, List.setIfInBounds_toArray, List.set_cons_zero, List.set_cons_succ]
        refine' wpAnyH_take (i := 7) (oi := { dst := some 59, op := Op.pick (Operand.tmp 57) (Operand.tmp 58) (Operand.const (Value.bool false)), type := 4, pos := "read.go:22", after := #[{ on := 5, ground := Ground.data }, { on := 6, ground := Ground.data }], guard := none }) (v := _) rfl (by kernel_rfl) (by kernel_rfl) (by kernel_rfl) (fun _ _ _ h => h) (Or.inl ⟨by rfl, ?hya7⟩) hHeld ?resta7
        case hya7 =>
          intro w' hSw
          try dsimp only at hSw
          go_simp
          try with_reducible rfl
        try simp only [Act.put, List.setIfInBounds_toArray, List.set_cons_zero, List.set_cons_succ]
        refine' wpAnyH_take (i := 8) (oi := { dst := some 60, op := Op.move (Operand.tmp 59), type := 4, pos := "read.go:22", after := #[{ on := 7, ground := Ground.data }, { on := 5, ground := Ground.chain }], guard := none }) (v := _) rfl (by kernel_rfl) (by kernel_rfl) (by kernel_rfl) (fun _ _ _ h => h) (Or.inl ⟨by rfl, ?hya8⟩) hHeld ?resta8
        case hya8 =>
          intro w' hSw
          try dsimp only at hSw
          go_simp
          try with_reducible rfl
        try simp only [Act.put, List.setIfInBounds_toArray, List.set_cons_zero, List.set_cons_succ]
        refine wpAnyH_take (i := 9) (oi := { dst := some 61, op := Op.move (Operand.tmp 0), type := 59, pos := "read.go:22", after := #[{ on := 8, ground := Ground.guard }], guard := some (8, true) }) (v := undef) rfl (by kernel_rfl) (by kernel_rfl) (by kernel_rfl) (fun _ _ _ h => h) (Or.inr ⟨by rfl, rfl⟩) hHeld ?_
        try simp only [Act.put, List.setIfInBounds_toArray, List.set_cons_zero, List.set_cons_succ]
        refine wpAnyH_take (i := 10) (oi := { dst := some 62, op := Op.call { callee := Callee.value (Operand.func 55), args := #[Operand.tmp 61], argTypes := #[59] }, type := 3, pos := "read.go:22", after := #[{ on := 9, ground := Ground.data }, { on := 8, ground := Ground.chain }, { on := 8, ground := Ground.guard }], guard := some (8, true) }) (v := undef) rfl (by kernel_rfl) (by kernel_rfl) (by kernel_rfl) (fun _ _ _ h => h) (Or.inr ⟨by rfl, rfl⟩) hHeld ?_
        try simp only [Act.put, List.setIfInBounds_toArray, List.set_cons_zero, List.set_cons_succ]
        refine wpAnyH_take (i := 11) (oi := { dst := some 63, op := Op.binOp BinOp.eql 3 (Operand.tmp 62) (Operand.const (Value.int IntKind.i64 0)) 3, type := 4, pos := "read.go:22", after := #[{ on := 10, ground := Ground.data }, { on := 8, ground := Ground.guard }, { on := 13, ground := Ground.gcOnly Departure.lateStores }], guard := some (8, true) }) (v := undef) rfl (by kernel_rfl) (by kernel_rfl) (by kernel_rfl) (fun _ _ _ h => h) (Or.inr ⟨by rfl, rfl⟩) hHeld ?_
        try simp only [Act.put, List.setIfInBounds_toArray, List.set_cons_zero, List.set_cons_succ]
        refine' wpAnyH_take (i := 12) (oi := { dst := some 64, op := Op.pick (Operand.tmp 60) (Operand.tmp 63) (Operand.const (Value.bool false)), type := 4, pos := "read.go:22", after := #[{ on := 8, ground := Ground.data }, { on := 11, ground := Ground.data }, { on := 13, ground := Ground.gcOnly Departure.lateStores }], guard := none }) (v := _) rfl (by kernel_rfl) (by kernel_rfl) (by kernel_rfl) (fun _ _ _ h => h) (Or.inl ⟨by rfl, ?hya12⟩) hHeld ?resta12
        case hya12 =>
          intro w' hSw
          try dsimp only at hSw
          go_simp
          try with_reducible rfl
        try simp only [Act.put, List.setIfInBounds_toArray, List.set_cons_zero, List.set_cons_succ]
        refine wpAnyH_ready (rs := [13]) (by kernel_rfl) (by simp) ?_
        refine AllReadyH.cons (o := { dst := none, op := Op.store 25 (Operand.tmp 2) (Operand.tmp 52), type := 0, pos := "read.go:22", after := #[{ on := 0, ground := Ground.data }, { on := 10, ground := Ground.chain }, { on := 0, ground := Ground.phase }, { on := 1, ground := Ground.textOnly Departure.lateStores }, { on := 2, ground := Ground.textOnly Departure.lateStores }, { on := 3, ground := Ground.textOnly Departure.lateStores }, { on := 4, ground := Ground.textOnly Departure.lateStores }, { on := 5, ground := Ground.textOnly Departure.lateStores }, { on := 6, ground := Ground.textOnly Departure.lateStores }, { on := 7, ground := Ground.textOnly Departure.lateStores }, { on := 8, ground := Ground.textOnly Departure.lateStores }, { on := 9, ground := Ground.textOnly Departure.lateStores }, { on := 10, ground := Ground.textOnly Departure.lateStoresUnsure }, { on := 11, ground := Ground.textOnly Departure.lateStores }, { on := 12, ground := Ground.textOnly Departure.lateStores }], guard := none }) rfl (fun K13 hK13 => ?_) AllReadyH.nil
        go_simp
        refine hK13.out _ _ HKS.out (fun hHeld2 => ?_)
        clear hK13 K13
        try simp only [Act.put, List.setIfInBounds_toArray, List.set_cons_zero, List.set_cons_succ]
        refine' wpAnyH_take (i := 14) (oi := { dst := some 3, op := Op.assign (Operand.tmp 64), type := 4, pos := "read.go:22", after := #[{ on := 12, ground := Ground.data }, { on := 13, ground := Ground.chain }, { on := 0, ground := Ground.phase }, { on := 1, ground := Ground.phase }, { on := 2, ground := Ground.phase }, { on := 3, ground := Ground.phase }, { on := 4, ground := Ground.phase }, { on := 5, ground := Ground.phase }, { on := 6, ground := Ground.phase }, { on := 7, ground := Ground.phase }, { on := 8, ground := Ground.phase }, { on := 9, ground := Ground.phase }, { on := 10, ground := Ground.phase }, { on := 11, ground := Ground.phase }, { on := 12, ground := Ground.phase }, { on := 13, ground := Ground.phase }], guard := none }) (v := _) rfl (by kernel_rfl) (by kernel_rfl) (by kernel_rfl) (fun _ _ _ h => h) (Or.inl ⟨by rfl, ?hya14⟩) hHeld2 ?resta14
        case hya14 =>
          intro w' hSw
          try dsimp only at hSw
          go_simp
          try with_reducible rfl
        try simp only [Act.put, List.setIfInBounds_toArray, List.set_cons_zero, List.set_cons_succ]
        refine wpAnyH_done (by kernel_rfl) ?_ _
        refine NoPanic.normal ?_
        all_goals
          go_wp2_with fail
          refine bodyPost_ret (v := .tuple #[.agg #[.int .i64 (n0 : Int), .int .i64 (n1 : Int), .int .i64 (n2 : Int), .int .i64 (n3 : Int), .slice pi li ci, .slice pr lr cr, .slice pn ln cn], .bool false]) (by simp [results, Try.results33, go_sem, r0, r1, r2, r3, r4, r5, r6]) rfl ?_
          exact HEd.out _ ⟨fun e => (by cases e), fun e => (by have := e.1; cases this)⟩
      | true =>
        cases ok2 with
        | false =>
          clear HLf
          go_wp2_with fail
          refine wp_region_noPanic ?_
          refine wp_region_held_drew (S := (fun w' : World => w'.cell? ⟨q, 0, none⟩ = some (.int .i64 (n0 : Int)) ∧ w'.cell? ⟨q, 1, none⟩ = some (.int .i64 (n1 : Int)) ∧ w'.cell? ⟨q, 2, none⟩ = some (.int .i64 (n2 : Int)) ∧ w'.cell? ⟨q, 3, none⟩ = some (.int .i64 (n3 : Int)) ∧ w'.cell? ⟨q, 4, none⟩ = some (.slice pi li ci) ∧ w'.cell? ⟨q, 5, none⟩ = some (.slice pr lr cr) ∧ w'.cell? ⟨q, 6, none⟩ = some (.slice pn ln cn))) (by kernel_rfl) ⟨m0, m1, m2, m3, m4, m5, m6⟩ (fun hHeld => ?_)
          refine' wpAnyH_take (i := 0) (oi := { dst := some 52, op := Op.load 25 (Operand.tmp 12), type := 25, pos := "read.go:22", after := #[], guard := none }) (v := _) rfl (by kernel_rfl) (by kernel_rfl) (by kernel_rfl) (fun _ _ _ h => h) (Or.inl ⟨by rfl, ?hyb0⟩) hHeld ?restb0
          case hyb0 =>
            intro w' hSw
            try dsimp only at hSw
            go_simp
            try with_reducible rfl
          try simp only [Act.put, List.setIfInBounds_toArray, List.set_cons_zero, List.set_cons_succ]
          refine' wpAnyH_take (i := 1) (oi := { dst := some 53, op := Op.move (Operand.tmp 7), type := 4, pos := "read.go:22", after := #[], guard := none }) (v := _) rfl (by kernel_rfl) (by kernel_rfl) (by kernel_rfl) (fun _ _ _ h => h) (Or.inl ⟨by rfl, ?hyb1⟩) hHeld ?restb1
          case hyb1 =>
            intro w' hSw
            try dsimp only at hSw
            go_simp
            try with_reducible rfl
          try simp only [Act.put, List.setIfInBounds_toArray, List.set_cons_zero, List.set_cons_succ]
          refine' wpAnyH_take (i := 2) (oi := { dst := some 54, op := Op.move (Operand.tmp 53), type := 4, pos := "read.go:22", after := #[{ on := 1, ground := Ground.data }], guard := none }) (v := _) rfl (by kernel_rfl) (by kernel_rfl) (by kernel_rfl) (fun _ _ _ h => h) (Or.inl ⟨by rfl, ?hyb2⟩) hHeld ?restb2
          case hyb2 =>
            intro w' hSw
            try dsimp only at hSw
            go_simp
            try with_reducible rfl
          try simp only [Act.put, List.setIfInBounds_toArray, List.set_cons_zero, List.set_cons_succ]
          refine' wpAnyH_take (i := 3) (oi := { dst := some 55, op := Op.move (Operand.tmp 9), type := 4, pos := "read.go:22", after := #[{ on := 2, ground := Ground.guard }], guard := some (2, true) }) (v := _) rfl (by kernel_rfl) (by kernel_rfl) (by kernel_rfl) (fun _ _ _ h => h) (Or.inl ⟨by rfl, ?hyb3⟩) hHeld ?restb3
          case hyb3 =>
            intro w' hSw
            try dsimp only at hSw
            go_simp
            try with_reducible rfl
          try simp only [Act.put, List.setIfInBounds_toArray, List.set_cons_zero, List.set_cons_succ]
          refine' wpAnyH_take (i := 4) (oi := { dst := some 56, op := Op.pick (Operand.tmp 54) (Operand.tmp 55) (Operand.const (Value.bool false)), type := 4, pos := "read.go:22", after := #[{ on := 2, ground := Ground.data }, { on := 3, ground := Ground.data }], guard := none }) (v := _) rfl (by kernel_rfl) (by kernel_rfl) (by kernel_rfl) (fun _ _ _ h => h) (Or.inl ⟨by rfl, ?hyb4⟩) hHeld ?restb4
          case hyb4 =>
            intro w' hSw
            try dsimp only at hSw
            go_simp
            try with_reducible rfl
          try simp only [Act.put, List.setIfInBounds_toArray, List.set_cons_zero, List.set_cons_succ]
          refine' wpAnyH_take (i := 5) (oi := { dst := some 57, op := Op.move (Operand.tmp 56), type := 4, pos := "read.go:22", after := #[{ on := 4, ground := Ground.data }, { on := 2, ground := Ground.chain }], guard := none }) (v := _) rfl (by kernel_rfl) (by kernel_rfl) (by kernel_rfl) (fun _ _ _ h => h) (Or.inl ⟨by rfl, ?hyb5⟩) hHeld ?restb5
          case hyb5 =>
            intro w' hSw
            try dsimp only at hSw
            go_simp
            try with_reducible rfl
          try simp only [Act.put, List.setIfInBounds_toArray, List.set_cons_zero, List.set_cons_succ]
          refine wpAnyH_take (i := 6) (oi := { dst := some 58, op := Op.move (Operand.tmp 11), type := 4, pos := "read.go:22", after := #[{ on := 5, ground := Ground.guard }], guard := some (5, true) }) (v := undef) rfl (by kernel_rfl) (by kernel_rfl) (by kernel_rfl) (fun _ _ _ h => h) (Or.inr ⟨by rfl, rfl⟩) hHeld ?_
          try simp only [Act.put, List.setIfInBounds_toArray, List.set_cons_zero, List.set_cons_succ]
          refine' wpAnyH_take (i := 7) (oi := { dst := some 59, op := Op.pick (Operand.tmp 57) (Operand.tmp 58) (Operand.const (Value.bool false)), type := 4, pos := "read.go:22", after := #[{ on := 5, ground := Ground.data }, { on := 6, ground := Ground.data }], guard := none }) (v := _) rfl (by kernel_rfl) (by kernel_rfl) (by kernel_rfl) (fun _ _ _ h => h) (Or.inl ⟨by rfl, ?hyb7⟩) hHeld ?restb7
          case hyb7 =>
            intro w' hSw
            try dsimp only at hSw
            go_simp
            try with_reducible rfl
          try simp only [Act.put, List.setIfInBounds_toArray, List.set_cons_zero, List.set_cons_succ]
          refine' wpAnyH_take (i := 8) (oi := { dst := some 60, op := Op.move (Operand.tmp 59), type := 4, pos := "read.go:22", after := #[{ on := 7, ground := Ground.data }, { on := 5, ground := Ground.chain }], guard := none }) (v := _) rfl (by kernel_rfl) (by kernel_rfl) (by kernel_rfl) (fun _ _ _ h => h) (Or.inl ⟨by rfl, ?hyb8⟩) hHeld ?restb8
          case hyb8 =>
            intro w' hSw
            try dsimp only at hSw
            go_simp
            try with_reducible rfl
          try simp only [Act.put, List.setIfInBounds_toArray, List.set_cons_zero, List.set_cons_succ]
          refine wpAnyH_take (i := 9) (oi := { dst := some 61, op := Op.move (Operand.tmp 0), type := 59, pos := "read.go:22", after := #[{ on := 8, ground := Ground.guard }], guard := some (8, true) }) (v := undef) rfl (by kernel_rfl) (by kernel_rfl) (by kernel_rfl) (fun _ _ _ h => h) (Or.inr ⟨by rfl, rfl⟩) hHeld ?_
          try simp only [Act.put, List.setIfInBounds_toArray, List.set_cons_zero, List.set_cons_succ]
          refine wpAnyH_take (i := 10) (oi := { dst := some 62, op := Op.call { callee := Callee.value (Operand.func 55), args := #[Operand.tmp 61], argTypes := #[59] }, type := 3, pos := "read.go:22", after := #[{ on := 9, ground := Ground.data }, { on := 8, ground := Ground.chain }, { on := 8, ground := Ground.guard }], guard := some (8, true) }) (v := undef) rfl (by kernel_rfl) (by kernel_rfl) (by kernel_rfl) (fun _ _ _ h => h) (Or.inr ⟨by rfl, rfl⟩) hHeld ?_
          try simp only [Act.put, List.setIfInBounds_toArray, List.set_cons_zero, List.set_cons_succ]
          refine wpAnyH_take (i := 11) (oi := { dst := some 63, op := Op.binOp BinOp.eql 3 (Operand.tmp 62) (Operand.const (Value.int IntKind.i64 0)) 3, type := 4, pos := "read.go:22", after := #[{ on := 10, ground := Ground.data }, { on := 8, ground := Ground.guard }, { on := 13, ground := Ground.gcOnly Departure.lateStores }], guard := some (8, true) }) (v := undef) rfl (by kernel_rfl) (by kernel_rfl) (by kernel_rfl) (fun _ _ _ h => h) (Or.inr ⟨by rfl, rfl⟩) hHeld ?_
          try simp only [Act.put, List.setIfInBounds_toArray, List.set_cons_zero, List.set_cons_succ]
          refine' wpAnyH_take (i := 12) (oi := { dst := some 64, op := Op.pick (Operand.tmp 60) (Operand.tmp 63) (Operand.const (Value.bool false)), type := 4, pos := "read.go:22", after := #[{ on := 8, ground := Ground.data }, { on := 11, ground := Ground.data }, { on := 13, ground := Ground.gcOnly Departure.lateStores }], guard := none }) (v := _) rfl (by kernel_rfl) (by kernel_rfl) (by kernel_rfl) (fun _ _ _ h => h) (Or.inl ⟨by rfl, ?hyb12⟩) hHeld ?restb12
          case hyb12 =>
            intro w' hSw
            try dsimp only at hSw
            go_simp
            try with_reducible rfl
          try simp only [Act.put, List.setIfInBounds_toArray, List.set_cons_zero, List.set_cons_succ]
          refine wpAnyH_ready (rs := [13]) (by kernel_rfl) (by simp) ?_
          refine AllReadyH.cons (o := { dst := none, op := Op.store 25 (Operand.tmp 2) (Operand.tmp 52), type := 0, pos := "read.go:22", after := #[{ on := 0, ground := Ground.data }, { on := 10, ground := Ground.chain }, { on := 0, ground := Ground.phase }, { on := 1, ground := Ground.textOnly Departure.lateStores }, { on := 2, ground := Ground.textOnly Departure.lateStores }, { on := 3, ground := Ground.textOnly Departure.lateStores }, { on := 4, ground := Ground.textOnly Departure.lateStores }, { on := 5, ground := Ground.textOnly Departure.lateStores }, { on := 6, ground := Ground.textOnly Departure.lateStores }, { on := 7, ground := Ground.textOnly Departure.lateStores }, { on := 8, ground := Ground.textOnly Departure.lateStores }, { on := 9, ground := Ground.textOnly Departure.lateStores }, { on := 10, ground := Ground.textOnly Departure.lateStoresUnsure }, { on := 11, ground := Ground.textOnly Departure.lateStores }, { on := 12, ground := Ground.textOnly Departure.lateStores }], guard := none }) rfl (fun K13 hK13 => ?_) AllReadyH.nil
          go_simp
          refine hK13.out _ _ HKS.out (fun hHeld2 => ?_)
          clear hK13 K13
          try simp only [Act.put, List.setIfInBounds_toArray, List.set_cons_zero, List.set_cons_succ]
          refine' wpAnyH_take (i := 14) (oi := { dst := some 3, op := Op.assign (Operand.tmp 64), type := 4, pos := "read.go:22", after := #[{ on := 12, ground := Ground.data }, { on := 13, ground := Ground.chain }, { on := 0, ground := Ground.phase }, { on := 1, ground := Ground.phase }, { on := 2, ground := Ground.phase }, { on := 3, ground := Ground.phase }, { on := 4, ground := Ground.phase }, { on := 5, ground := Ground.phase }, { on := 6, ground := Ground.phase }, { on := 7, ground := Ground.phase }, { on := 8, ground := Ground.phase }, { on := 9, ground := Ground.phase }, { on := 10, ground := Ground.phase }, { on := 11, ground := Ground.phase }, { on := 12, ground := Ground.phase }, { on := 13, ground := Ground.phase }], guard := none }) (v := _) rfl (by kernel_rfl) (by kernel_rfl) (by kernel_rfl) (fun _ _ _ h => h) (Or.inl ⟨by rfl, ?hyb14⟩) hHeld2 ?restb14
          case hyb14 =>
            intro w' hSw
            try dsimp only at hSw
            go_simp
            try with_reducible rfl
          try simp only [Act.put, List.setIfInBounds_toArray, List.set_cons_zero, List.set_cons_succ]
          refine wpAnyH_done (by kernel_rfl) ?_ _
          refine NoPanic.normal ?_
          all_goals
            go_wp2_with fail
            refine bodyPost_ret (v := .tuple #[.agg #[.int .i64 (n0 : Int), .int .i64 (n1 : Int), .int .i64 (n2 : Int), .int .i64 (n3 : Int), .slice pi li ci, .slice pr lr cr, .slice pn ln cn], .bool false]) (by simp [results, Try.results33, go_sem, r0, r1, r2, r3, r4, r5, r6]) rfl ?_
            exact HEd.out _ ⟨fun e => (by cases e), fun e => (by have := e.2.1; cases this)⟩
        | true =>
          cases ok3 with
          | false =>
            clear HLf
            go_wp2_with fail
            refine wp_region_noPanic ?_
            refine wp_region_held_drew (S := (fun w' : World => w'.cell? ⟨q, 0, none⟩ = some (.int .i64 (n0 : Int)) ∧ w'.cell? ⟨q, 1, none⟩ = some (.int .i64 (n1 : Int)) ∧ w'.cell? ⟨q, 2, none⟩ = some (.int .i64 (n2 : Int)) ∧ w'.cell? ⟨q, 3, none⟩ = some (.int .i64 (n3 : Int)) ∧ w'.cell? ⟨q, 4, none⟩ = some (.slice pi li ci) ∧ w'.cell? ⟨q, 5, none⟩ = some (.slice pr lr cr) ∧ w'.cell? ⟨q, 6, none⟩ = some (.slice pn ln cn))) (by kernel_rfl) ⟨m0, m1, m2, m3, m4, m5, m6⟩ (fun hHeld => ?_)
            refine' wpAnyH_take (i := 0) (oi := { dst := some 52, op := Op.load 25 (Operand.tmp 12), type := 25, pos := "read.go:22", after := #[], guard := none }) (v := _) rfl (by kernel_rfl) (by kernel_rfl) (by kernel_rfl) (fun _ _ _ h => h) (Or.inl ⟨by rfl, ?hyc0⟩) hHeld ?restc0
            case hyc0 =>
              intro w' hSw
              try dsimp only at hSw
              go_simp
              try with_reducible rfl
            try simp only [Act.put, List.setIfInBounds_toArray, List.set_cons_zero, List.set_cons_succ]
            refine' wpAnyH_take (i := 1) (oi := { dst := some 53, op := Op.move (Operand.tmp 7), type := 4, pos := "read.go:22", after := #[], guard := none }) (v := _) rfl (by kernel_rfl) (by kernel_rfl) (by kernel_rfl) (fun _ _ _ h => h) (Or.inl ⟨by rfl, ?hyc1⟩) hHeld ?restc1
            case hyc1 =>
              intro w' hSw
              try dsimp only at hSw
              go_simp
              try with_reducible rfl
            try simp only [Act.put, List.setIfInBounds_toArray, List.set_cons_zero, List.set_cons_succ]
            refine' wpAnyH_take (i := 2) (oi := { dst := some 54, op := Op.move (Operand.tmp 53), type := 4, pos := "read.go:22", after := #[{ on := 1, ground := Ground.data }], guard := none }) (v := _) rfl (by kernel_rfl) (by kernel_rfl) (by kernel_rfl) (fun _ _ _ h => h) (Or.inl ⟨by rfl, ?hyc2⟩) hHeld ?restc2
            case hyc2 =>
              intro w' hSw
              try dsimp only at hSw
              go_simp
              try with_reducible rfl
            try simp only [Act.put, List.setIfInBounds_toArray, List.set_cons_zero, List.set_cons_succ]
            refine' wpAnyH_take (i := 3) (oi := { dst := some 55, op := Op.move (Operand.tmp 9), type := 4, pos := "read.go:22", after := #[{ on := 2, ground := Ground.guard }], guard := some (2, true) }) (v := _) rfl (by kernel_rfl) (by kernel_rfl) (by kernel_rfl) (fun _ _ _ h => h) (Or.inl ⟨by rfl, ?hyc3⟩) hHeld ?restc3
            case hyc3 =>
              intro w' hSw
              try dsimp only at hSw
              go_simp
              try with_reducible rfl
            try simp only [Act.put, List.setIfInBounds_toArray, List.set_cons_zero, List.set_cons_succ]
            refine' wpAnyH_take (i := 4) (oi := { dst := some 56, op := Op.pick (Operand.tmp 54) (Operand.tmp 55) (Operand.const (Value.bool false)), type := 4, pos := "read.go:22", after := #[{ on := 2, ground := Ground.data }, { on := 3, ground := Ground.data }], guard := none }) (v := _) rfl (by kernel_rfl) (by kernel_rfl) (by kernel_rfl) (fun _ _ _ h => h) (Or.inl ⟨by rfl, ?hyc4⟩) hHeld ?restc4
            case hyc4 =>
              intro w' hSw
              try dsimp only at hSw
              go_simp
              try with_reducible rfl
            try simp only [Act.put, List.setIfInBounds_toArray, List.set_cons_zero, List.set_cons_succ]
            refine' wpAnyH_take (i := 5) (oi := { dst := some 57, op := Op.move (Operand.tmp 56), type := 4, pos := "read.go:22", after := #[{ on := 4, ground := Ground.data }, { on := 2, ground := Ground.chain }], guard := none }) (v := _) rfl (by kernel_rfl) (by kernel_rfl) (by kernel_rfl) (fun _ _ _ h => h) (Or.inl ⟨by rfl, ?hyc5⟩) hHeld ?restc5
            case hyc5 =>
              intro w' hSw
              try dsimp only at hSw
              go_simp
              try with_reducible rfl
            try simp only [Act.put, List.setIfInBounds_toArray, List.set_cons_zero, List.set_cons_succ]
            refine' wpAnyH_take (i := 6) (oi := { dst := some 58, op := Op.move (Operand.tmp 11), type := 4, pos := "read.go:22", after := #[{ on := 5, ground := Ground.guard }], guard := some (5, true) }) (v := _) rfl (by kernel_rfl) (by kernel_rfl) (by kernel_rfl) (fun _ _ _ h => h) (Or.inl ⟨by rfl, ?hyc6⟩) hHeld ?restc6
            case hyc6 =>
              intro w' hSw
              try dsimp only at hSw
              go_simp
              try with_reducible rfl
            try simp only [Act.put, List.setIfInBounds_toArray, List.set_cons_zero, List.set_cons_succ]
            refine' wpAnyH_take (i := 7) (oi := { dst := some 59, op := Op.pick (Operand.tmp 57) (Operand.tmp 58) (Operand.const (Value.bool false)), type := 4, pos := "read.go:22", after := #[{ on := 5, ground := Ground.data }, { on := 6, ground := Ground.data }], guard := none }) (v := _) rfl (by kernel_rfl) (by kernel_rfl) (by kernel_rfl) (fun _ _ _ h => h) (Or.inl ⟨by rfl, ?hyc7⟩) hHeld ?restc7
            case hyc7 =>
              intro w' hSw
              try dsimp only at hSw
              go_simp
              try with_reducible rfl
            try simp only [Act.put, List.setIfInBounds_toArray, List.set_cons_zero, List.set_cons_succ]
            refine' wpAnyH_take (i := 8) (oi := { dst := some 60, op := Op.move (Operand.tmp 59), type := 4, pos := "read.go:22", after := #[{ on := 7, ground := Ground.data }, { on := 5, ground := Ground.chain }], guard := none }) (v := _) rfl (by kernel_rfl) (by kernel_rfl) (by kernel_rfl) (fun _ _ _ h => h) (Or.inl ⟨by rfl, ?hyc8⟩) hHeld ?restc8
            case hyc8 =>
              intro w' hSw
              try dsimp only at hSw
              go_simp
              try with_reducible rfl
            try simp only [Act.put, List.setIfInBounds_toArray, List.set_cons_zero, List.set_cons_succ]
            refine wpAnyH_take (i := 9) (oi := { dst := some 61, op := Op.move (Operand.tmp 0), type := 59, pos := "read.go:22", after := #[{ on := 8, ground := Ground.guard }], guard := some (8, true) }) (v := undef) rfl (by kernel_rfl) (by kernel_rfl) (by kernel_rfl) (fun _ _ _ h => h) (Or.inr ⟨by rfl, rfl⟩) hHeld ?_
            try simp only [Act.put, List.setIfInBounds_toArray, List.set_cons_zero, List.set_cons_succ]
            refine wpAnyH_take (i := 10) (oi := { dst := some 62, op := Op.call { callee := Callee.value (Operand.func 55), args := #[Operand.tmp 61], argTypes := #[59] }, type := 3, pos := "read.go:22", after := #[{ on := 9, ground := Ground.data }, { on := 8, ground := Ground.chain }, { on := 8, ground := Ground.guard }], guard := some (8, true) }) (v := undef) rfl (by kernel_rfl) (by kernel_rfl) (by kernel_rfl) (fun _ _ _ h => h) (Or.inr ⟨by rfl, rfl⟩) hHeld ?_
            try simp only [Act.put, List.setIfInBounds_toArray, List.set_cons_zero, List.set_cons_succ]
            refine wpAnyH_take (i := 11) (oi := { dst := some 63, op := Op.binOp BinOp.eql 3 (Operand.tmp 62) (Operand.const (Value.int IntKind.i64 0)) 3, type := 4, pos := "read.go:22", after := #[{ on := 10, ground := Ground.data }, { on := 8, ground := Ground.guard }, { on := 13, ground := Ground.gcOnly Departure.lateStores }], guard := some (8, true) }) (v := undef) rfl (by kernel_rfl) (by kernel_rfl) (by kernel_rfl) (fun _ _ _ h => h) (Or.inr ⟨by rfl, rfl⟩) hHeld ?_
            try simp only [Act.put, List.setIfInBounds_toArray, List.set_cons_zero, List.set_cons_succ]
            refine' wpAnyH_take (i := 12) (oi := { dst := some 64, op := Op.pick (Operand.tmp 60) (Operand.tmp 63) (Operand.const (Value.bool false)), type := 4, pos := "read.go:22", after := #[{ on := 8, ground := Ground.data }, { on := 11, ground := Ground.data }, { on := 13, ground := Ground.gcOnly Departure.lateStores }], guard := none }) (v := _) rfl (by kernel_rfl) (by kernel_rfl) (by kernel_rfl) (fun _ _ _ h => h) (Or.inl ⟨by rfl, ?hyc12⟩) hHeld ?restc12
            case hyc12 =>
              intro w' hSw
              try dsimp only at hSw
              go_simp
              try with_reducible rfl
            try simp only [Act.put, List.setIfInBounds_toArray, List.set_cons_zero, List.set_cons_succ]
            refine wpAnyH_ready (rs := [13]) (by kernel_rfl) (by simp) ?_
            refine AllReadyH.cons (o := { dst := none, op := Op.store 25 (Operand.tmp 2) (Operand.tmp 52), type := 0, pos := "read.go:22", after := #[{ on := 0, ground := Ground.data }, { on := 10, ground := Ground.chain }, { on := 0, ground := Ground.phase }, { on := 1, ground := Ground.textOnly Departure.lateStores }, { on := 2, ground := Ground.textOnly Departure.lateStores }, { on := 3, ground := Ground.textOnly Departure.lateStores }, { on := 4, ground := Ground.textOnly Departure.lateStores }, { on := 5, ground := Ground.textOnly Departure.lateStores }, { on := 6, ground := Ground.textOnly Departure.lateStores }, { on := 7, ground := Ground.textOnly Departure.lateStores }, { on := 8, ground := Ground.textOnly Departure.lateStores }, { on := 9, ground := Ground.textOnly Departure.lateStores }, { on := 10, ground := Ground.textOnly Departure.lateStoresUnsure }, { on := 11, ground := Ground.textOnly Departure.lateStores }, { on := 12, ground := Ground.textOnly Departure.lateStores }], guard := none }) rfl (fun K13 hK13 => ?_) AllReadyH.nil
            go_simp
            refine hK13.out _ _ HKS.out (fun hHeld2 => ?_)
            clear hK13 K13
            try simp only [Act.put, List.setIfInBounds_toArray, List.set_cons_zero, List.set_cons_succ]
            refine' wpAnyH_take (i := 14) (oi := { dst := some 3, op := Op.assign (Operand.tmp 64), type := 4, pos := "read.go:22", after := #[{ on := 12, ground := Ground.data }, { on := 13, ground := Ground.chain }, { on := 0, ground := Ground.phase }, { on := 1, ground := Ground.phase }, { on := 2, ground := Ground.phase }, { on := 3, ground := Ground.phase }, { on := 4, ground := Ground.phase }, { on := 5, ground := Ground.phase }, { on := 6, ground := Ground.phase }, { on := 7, ground := Ground.phase }, { on := 8, ground := Ground.phase }, { on := 9, ground := Ground.phase }, { on := 10, ground := Ground.phase }, { on := 11, ground := Ground.phase }, { on := 12, ground := Ground.phase }, { on := 13, ground := Ground.phase }], guard := none }) (v := _) rfl (by kernel_rfl) (by kernel_rfl) (by kernel_rfl) (fun _ _ _ h => h) (Or.inl ⟨by rfl, ?hyc14⟩) hHeld2 ?restc14
            case hyc14 =>
              intro w' hSw
              try dsimp only at hSw
              go_simp
              try with_reducible rfl
            try simp only [Act.put, List.setIfInBounds_toArray, List.set_cons_zero, List.set_cons_succ]
            refine wpAnyH_done (by kernel_rfl) ?_ _
            refine NoPanic.normal ?_
            all_goals
              go_wp2_with fail
              refine bodyPost_ret (v := .tuple #[.agg #[.int .i64 (n0 : Int), .int .i64 (n1 : Int), .int .i64 (n2 : Int), .int .i64 (n3 : Int), .slice pi li ci, .slice pr lr cr, .slice pn ln cn], .bool false]) (by simp [results, Try.results33, go_sem, r0, r1, r2, r3, r4, r5, r6]) rfl ?_
              exact HEd.out _ ⟨fun e => (by cases e), fun e => (by have := e.2.2.1; cases this)⟩
          | true =>
            have hLe : ((R3.length : Int) == 0) = decide (R3.length = 0) := by
              by_cases e : R3.length = 0
              · rw [e]; rfl
              · simp [e]
            obtain ⟨lq, hlq⟩ : ∃ lq, lq = decide (R3.length = 0) := ⟨_, rfl⟩
            rw [← hlq] at hLe
            have HQ : Hid (lq = true ↔ R3.length = 0) := by show _ ↔ _; rw [hlq]; exact decide_eq_true_iff
            clear hlq
            go_wp2_with fail
            go_region_held3 (fun w' => w'.cell? ⟨q, 0, none⟩ = some (.int .i64 (n0 : Int)) ∧ w'.cell? ⟨q, 1, none⟩ = some (.int .i64 (n1 : Int)) ∧ w'.cell? ⟨q, 2, none⟩ = some (.int .i64 (n2 : Int)) ∧ w'.cell? ⟨q, 3, none⟩ = some (.int .i64 (n3 : Int)) ∧ w'.cell? ⟨q, 4, none⟩ = some (.slice pi li ci) ∧ w'.cell? ⟨q, 5, none⟩ = some (.slice pr lr cr) ∧ w'.cell? ⟨q, 6, none⟩ = some (.slice pn ln cn)) (first | with_reducible exact HKS.out | go_keep) (first | (go_at_call 55; with_reducible refine Calls.mono (HLf.out _ rfl rfl rfl rfl) ?_; rintro e w6 ⟨rfl, rfl⟩))
            all_goals
              go_wp2_with fail
              refine bodyPost_ret (v := .tuple #[.agg #[.int .i64 (n0 : Int), .int .i64 (n1 : Int), .int .i64 (n2 : Int), .int .i64 (n3 : Int), .slice pi li ci, .slice pr lr cr, .slice pn ln cn], .bool lq]) (by simp [results, Try.results33, go_sem, r0, r1, r2, r3, r4, r5, r6]) rfl ?_
              exact HEd.out _ (by rw [HQ.out]; exact ⟨fun e => ⟨by first | rfl | trivial, by first | rfl | trivial, by first | rfl | trivial, e⟩, fun e => e.2.2.2⟩)
end Go.Proofs.Ytnbdbahfekneoaa

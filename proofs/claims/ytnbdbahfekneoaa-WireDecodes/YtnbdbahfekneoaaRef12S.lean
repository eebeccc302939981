/-
  Contracts of the document's SameInts, SameNats and Same (wire).
-/
import Derived.Test.YtnbdbahfekneoaaW12Enc
import Derived.BigQuiet
import Derived.Deep.RegionHeld3
import Derived.Deep.DeepCutAuto
namespace Go.Proofs.Ytnbdbahfekneoaa
open Go.RowKit

theorem bdr12 {V w : World} (h : Below V.heap.size V w) : Below V.heap.size V w.drew := ⟨h.os, h.tape, h.output, h.size, h.block⟩
theorem bgr12 {V w : World} (h : Below V.heap.size V w) (o : Obj) : Below V.heap.size V (w.alloc o) := h.alloc h.size o

set_option maxRecDepth 20000 in
set_option maxHeartbeats 1600000 in
theorem r12si_any (a b : Option Addr) (la ca lb cb : Nat) (xs ys : List Int) (w : World) (hx : Lsts w a la ca xs) (hy : Lsts w b lb cb ys) :
    Calls Try.prog 39 #[.slice a la ca, .slice b lb cb] w fun e w' => e = .returned (.bool (decide (xs = ys))) ∧ Below w.heap.size w w' := by
  have hm := hx.hmax
  have hc := hx.hcap
  unfold maxLen at hm
  have HL : Hid (xs.length = la ∧ ys.length = lb) := ⟨hx.hlen, hy.hlen⟩
  by_cases hl : la = lb
  case neg =>
    have hne : ((la : Int) != (lb : Int)) = true := by simp; omega
    have hne2 : ((la : Int) == (lb : Int)) = false := by simp; omega
    have HE : Hid (false = decide (xs = ys)) := (decide_eq_false (fun e => hl (by rw [← HL.out.1, ← HL.out.2, e]))).symm
    clear hx hy HL hl
    go_enter Try.func39, Try.ntmps39
    go_wp2
    go_ret
    exact ⟨ret_bool HE.out, Below.refl _ _⟩
  subst hl
  have H : Hid (Lsts w a la ca xs ∧ Lsts w b la cb ys) := ⟨hx, hy⟩
  clear hx hy
  obtain ⟨D, hD⟩ : ∃ D, D = decide (xs = ys) := ⟨_, rfl⟩
  have HD : Hid (D = decide (xs = ys)) := hD
  rw [← hD]
  clear hD
  go_enter Try.func39, Try.ntmps39
  go_wp2
  go_loopw [5] (fun v5 wr => ∃ k : Nat, k ≤ la ∧ v5 = .int .i64 k ∧ Hid (∀ j, j < k → xs.getD j 0 = ys.getD j 0) ∧ Below w.heap.size w wr) (fun v5 _ => la - (intOf v5).toNat)
  case atStart => exact ⟨0, by omega, rfl, fun j hj => by omega, Below.refl _ _⟩
  case round =>
    obtain ⟨k, hk, rfl, HE, hb⟩ := hrel
    by_cases hlt : k < la
    · have hlti : (k : Int) < (la : Int) := by omega
      obtain ⟨b1, o1, rfl, c1⟩ := (H.out.1.below hb).cells (by omega)
      obtain ⟨b2, o2, rfl, c2⟩ := (H.out.2.below hb).cells (by omega)
      replace c1 := c1 k hlt
      replace c2 := c2 k hlt
      obtain ⟨x, hx⟩ : ∃ x, x = xs.getD k 0 := ⟨_, rfl⟩
      obtain ⟨y, hy⟩ : ∃ y, y = ys.getD k 0 := ⟨_, rfl⟩
      rw [← hx] at c1
      rw [← hy] at c2
      have HX : Hid (x = xs.getD k 0 ∧ y = ys.getD k 0) := ⟨hx, hy⟩
      clear hx hy
      by_cases hxy : x = y
      · have hq : (x != y) = false := by simp [hxy]
        have HN : Hid (∀ j, j < k + 1 → xs.getD j 0 = ys.getD j 0) := fun j hj => by
          by_cases e : j = k
          · subst e
            rw [← HX.out.1, ← HX.out.2]; exact hxy
          · exact HE.out j (by omega)
        subst hxy
        clear HX HE
        go_wp2
        go_quiet (fail)
        go_wp2
        go_roundw
        case rel => exact ⟨k + 1, by omega, by go_num, HN, below_drewN hb _⟩
        case measure => simp [intOf]; omega
      · have hq : (x != y) = true := by simp [hxy]
        have hq2 : (x == y) = false := by simp [hxy]
        have HF : Hid (false = D) := by
          show _ = _
          rw [HD.out]
          exact (decide_eq_false (fun e => hxy (by rw [HX.out.1, HX.out.2, e]))).symm
        clear HX HE HD hxy
        go_wp2
        go_quiet (fail)
        go_wp2
        go_ret
        exact ⟨ret_bool HF.out, below_drewN hb _⟩
    · obtain rfl : k = la := by omega
      have HF : Hid (true = D) := by
        show _ = _
        rw [HD.out]
        exact (decide_eq_true (ext_getD (d := 0) (by rw [HL.out.1, HL.out.2]) (fun j hj => HE.out j (by rw [← HL.out.1]; exact hj)))).symm
      clear HE HD
      go_wp2
      go_ret
      exact ⟨ret_bool HF.out, hb⟩

set_option maxRecDepth 20000 in
set_option maxHeartbeats 1600000 in
theorem r12sn_any (a b : Option Addr) (la ca lb cb : Nat) (xs ys : List (List Int)) (w : World) (hx : NRow w a la ca xs) (hy : NRow w b lb cb ys) :
    Calls Try.prog 40 #[.slice a la ca, .slice b lb cb] w fun e w' => e = .returned (.bool (decide (xs = ys))) ∧ Below w.heap.size w w' := by
  have hm := hx.hmax
  have hc := hx.hcap
  unfold maxLen at hm
  have HL : Hid (xs.length = la ∧ ys.length = lb) := ⟨hx.hlen, hy.hlen⟩
  by_cases hl : la = lb
  case neg =>
    have hne : ((la : Int) != (lb : Int)) = true := by simp; omega
    have hne2 : ((la : Int) == (lb : Int)) = false := by simp; omega
    have HE : Hid (false = decide (xs = ys)) := (decide_eq_false (fun e => hl (by rw [← HL.out.1, ← HL.out.2, e]))).symm
    clear hx hy HL hl
    go_enter Try.func40, Try.ntmps40
    go_wp2
    go_ret
    exact ⟨ret_bool HE.out, Below.refl _ _⟩
  subst hl
  have H : Hid (NRow w a la ca xs ∧ NRow w b la cb ys) := ⟨hx, hy⟩
  clear hx hy
  obtain ⟨D, hD⟩ : ∃ D, D = decide (xs = ys) := ⟨_, rfl⟩
  have HD : Hid (D = decide (xs = ys)) := hD
  rw [← hD]
  clear hD
  go_enter Try.func40, Try.ntmps40
  go_wp2
  go_loopw [5] (fun v5 wr => ∃ k : Nat, k ≤ la ∧ v5 = .int .i64 k ∧ Hid (∀ j, j < k → xs.getD j [] = ys.getD j []) ∧ Below w.heap.size w wr) (fun v5 _ => la - (intOf v5).toNat)
  case atStart => exact ⟨0, by omega, rfl, fun j hj => by omega, Below.refl _ _⟩
  case round =>
    obtain ⟨k, hk, rfl, HE, hb⟩ := hrel
    by_cases hlt : k < la
    · have hlti : (k : Int) < (la : Int) := by omega
      obtain ⟨b1, o1, rfl, h1⟩ := (H.out.1.below hb).cells (by omega)
      obtain ⟨b2, o2, rfl, h2⟩ := (H.out.2.below hb).cells (by omega)
      obtain ⟨p1, l1, q1, c1, n1⟩ := h1 k hlt
      obtain ⟨p2, l2, q2, c2, n2⟩ := h2 k hlt
      obtain ⟨S, hS⟩ : ∃ S, S = sameB (xs.getD k []) (ys.getD k []) := ⟨_, rfl⟩
      have HS : Hid (S = sameB (xs.getD k []) (ys.getD k [])) := hS
      have HRB : Hid (Below wr.heap.size wr wr) := Below.refl _ _
      have HSa : Hid (∀ wx : World, Below wr.heap.size wr wx → Calls Try.prog 60 #[.slice p1 l1 q1, .slice p2 l2 q2] wx fun e w' => e = .returned (.bool S) ∧ (w'.cell? ⟨b1, o1 + k, none⟩ = some (.slice p1 l1 q1) ∧ w'.cell? ⟨b2, o2 + k, none⟩ = some (.slice p2 l2 q2)) ∧ Hid (Below wr.heap.size wr w')) := by
        intro wx hbx
        refine (same_any _ _ _ _ _ _ _ _ wx (n1.below hbx) (n2.below hbx)).mono ?_
        rintro e w' ⟨rfl, hb'⟩
        have hbb := bthen hbx hb'
        exact ⟨by rw [hS], ⟨bkeep hbb c1 rfl, bkeep hbb c2 rfl⟩, hbb⟩
      clear h1 h2 n1 n2 hS
      go_wp2_with fail
      go_region_held3 (fun w' => w'.cell? ⟨b1, o1 + k, none⟩ = some (.slice p1 l1 q1) ∧ w'.cell? ⟨b2, o2 + k, none⟩ = some (.slice p2 l2 q2)) (first | go_keep | exact ⟨m0, m1⟩)
        (first
        | (go_at_call 60; with_reducible refine Calls.mono (HSa.out _ ?_) ?_; (focus (repeat (first | exact HRB.out | refine bdr12 ?_ | refine bgr12 ?_ _))); rintro e w3 ⟨rfl, ⟨m0, m1⟩, hB3⟩))
      all_goals
        have hbb := bthen hb hB3.out
        clear HSa HRB hB3 c1 c2 m0 m1 hb
        cases S with
        | true =>
          have HN : Hid (∀ j, j < k + 1 → xs.getD j [] = ys.getD j []) := fun j hj => by
            by_cases e : j = k
            · subst e
              have := HS.out
              unfold sameB at this
              exact of_decide_eq_true this.symm
            · exact HE.out j (by omega)
          clear HS HE
          go_wp2_with fail
          go_roundw
          case rel => exact ⟨k + 1, by omega, by go_num, HN, hbb⟩
          case measure => simp [intOf]; omega
        | false =>
          have HF : Hid (false = D) := by
            show _ = _
            rw [HD.out]
            have := HS.out
            unfold sameB at this
            have := of_decide_eq_false this.symm
            exact (decide_eq_false (fun e => this (by rw [e]))).symm
          clear HS HE HD
          go_wp2_with fail
          first | exact ⟨ret_bool HF.out, hbb⟩ | (go_ret; exact ⟨ret_bool HF.out, hbb⟩)
    · obtain rfl : k = la := by omega
      have HF : Hid (true = D) := by
        show _ = _
        rw [HD.out]
        exact (decide_eq_true (ext_getD (d := []) (by rw [HL.out.1, HL.out.2]) (fun j hj => HE.out j (by rw [← HL.out.1]; exact hj)))).symm
      clear HE HD
      go_wp2
      go_ret
      exact ⟨ret_bool HF.out, hb⟩

/-- Two messages are the same. -/
def sameM (k a b c k1 a1 b1 c1 : Int) (i i1 r r1 : List Int) (n n1 : List (List Int)) : Bool := (((((((k == k1) && (a == a1)) && (b == b1)) && (c == c1)) && decide (i = i1)) && decide (r = r1)) && decide (n = n1))
theorem sameM_iff {k a b c k1 a1 b1 c1 : Int} {i i1 r r1 : List Int} {n n1 : List (List Int)} : sameM k a b c k1 a1 b1 c1 i i1 r r1 n n1 = true ↔ (k = k1 ∧ a = a1 ∧ b = b1 ∧ c = c1) ∧ i = i1 ∧ r = r1 ∧ n = n1 := by
  unfold sameM
  simp only [Bool.and_eq_true, beq_iff_eq, decide_eq_true_eq]
  constructor
  · rintro ⟨⟨⟨⟨⟨⟨h1, h2⟩, h3⟩, h4⟩, h5⟩, h6⟩, h7⟩
    exact ⟨⟨h1, h2, h3, h4⟩, h5, h6, h7⟩
  · rintro ⟨⟨h1, h2, h3, h4⟩, h5, h6, h7⟩
    exact ⟨⟨⟨⟨⟨⟨h1, h2⟩, h3⟩, h4⟩, h5⟩, h6⟩, h7⟩

set_option maxRecDepth 20000 in
set_option maxHeartbeats 6400000 in
theorem r12same_any (k a b c k1 a1 b1 c1 : Int) (pi pr pn pi1 pr1 pn1 : Option Addr) (li ci lr cr ln cn li1 ci1 lr1 cr1 ln1 cn1 : Nat) (ids rows ids1 rows1 : List Int) (nats nats1 : List (List Int)) (w : World)
    (hI : Lsts w pi li ci ids) (hR : Lsts w pr lr cr rows) (hN : NRow w pn ln cn nats) (hI1 : Lsts w pi1 li1 ci1 ids1) (hR1 : Lsts w pr1 lr1 cr1 rows1) (hN1 : NRow w pn1 ln1 cn1 nats1) :
    Calls Try.prog 15 #[.agg #[.int .i64 k, .int .i64 a, .int .i64 b, .int .i64 c, .slice pi li ci, .slice pr lr cr, .slice pn ln cn], .agg #[.int .i64 k1, .int .i64 a1, .int .i64 b1, .int .i64 c1, .slice pi1 li1 ci1, .slice pr1 lr1 cr1, .slice pn1 ln1 cn1]] w fun e w' => e = .returned (.bool (sameM k a b c k1 a1 b1 c1 ids ids1 rows rows1 nats nats1)) ∧ Below w.heap.size w w' := by
  have hV := bthen (balloc w (.cells #[.int .i64 k, .int .i64 a, .int .i64 b, .int .i64 c, .slice pi li ci, .slice pr lr cr, .slice pn ln cn] 25)) (balloc (w.alloc (.cells #[.int .i64 k, .int .i64 a, .int .i64 b, .int .i64 c, .slice pi li ci, .slice pr lr cr, .slice pn ln cn] 25)) (.cells #[.int .i64 k1, .int .i64 a1, .int .i64 b1, .int .i64 c1, .slice pi1 li1 ci1, .slice pr1 lr1 cr1, .slice pn1 ln1 cn1] 25))
  have x0 : ((w.alloc (.cells #[.int .i64 k, .int .i64 a, .int .i64 b, .int .i64 c, .slice pi li ci, .slice pr lr cr, .slice pn ln cn] 25)).alloc (.cells #[.int .i64 k1, .int .i64 a1, .int .i64 b1, .int .i64 c1, .slice pi1 li1 ci1, .slice pr1 lr1 cr1, .slice pn1 ln1 cn1] 25)).cell? ⟨w.heap.size, 0, none⟩ = some (.int .i64 k) := by simp
  have x1 : ((w.alloc (.cells #[.int .i64 k, .int .i64 a, .int .i64 b, .int .i64 c, .slice pi li ci, .slice pr lr cr, .slice pn ln cn] 25)).alloc (.cells #[.int .i64 k1, .int .i64 a1, .int .i64 b1, .int .i64 c1, .slice pi1 li1 ci1, .slice pr1 lr1 cr1, .slice pn1 ln1 cn1] 25)).cell? ⟨w.heap.size, 1, none⟩ = some (.int .i64 a) := by simp
  have x2 : ((w.alloc (.cells #[.int .i64 k, .int .i64 a, .int .i64 b, .int .i64 c, .slice pi li ci, .slice pr lr cr, .slice pn ln cn] 25)).alloc (.cells #[.int .i64 k1, .int .i64 a1, .int .i64 b1, .int .i64 c1, .slice pi1 li1 ci1, .slice pr1 lr1 cr1, .slice pn1 ln1 cn1] 25)).cell? ⟨w.heap.size, 2, none⟩ = some (.int .i64 b) := by simp
  have x3 : ((w.alloc (.cells #[.int .i64 k, .int .i64 a, .int .i64 b, .int .i64 c, .slice pi li ci, .slice pr lr cr, .slice pn ln cn] 25)).alloc (.cells #[.int .i64 k1, .int .i64 a1, .int .i64 b1, .int .i64 c1, .slice pi1 li1 ci1, .slice pr1 lr1 cr1, .slice pn1 ln1 cn1] 25)).cell? ⟨w.heap.size, 3, none⟩ = some (.int .i64 c) := by simp
  have x4 : ((w.alloc (.cells #[.int .i64 k, .int .i64 a, .int .i64 b, .int .i64 c, .slice pi li ci, .slice pr lr cr, .slice pn ln cn] 25)).alloc (.cells #[.int .i64 k1, .int .i64 a1, .int .i64 b1, .int .i64 c1, .slice pi1 li1 ci1, .slice pr1 lr1 cr1, .slice pn1 ln1 cn1] 25)).cell? ⟨w.heap.size, 4, none⟩ = some (.slice pi li ci) := by simp
  have x5 : ((w.alloc (.cells #[.int .i64 k, .int .i64 a, .int .i64 b, .int .i64 c, .slice pi li ci, .slice pr lr cr, .slice pn ln cn] 25)).alloc (.cells #[.int .i64 k1, .int .i64 a1, .int .i64 b1, .int .i64 c1, .slice pi1 li1 ci1, .slice pr1 lr1 cr1, .slice pn1 ln1 cn1] 25)).cell? ⟨w.heap.size, 5, none⟩ = some (.slice pr lr cr) := by simp
  have x6 : ((w.alloc (.cells #[.int .i64 k, .int .i64 a, .int .i64 b, .int .i64 c, .slice pi li ci, .slice pr lr cr, .slice pn ln cn] 25)).alloc (.cells #[.int .i64 k1, .int .i64 a1, .int .i64 b1, .int .i64 c1, .slice pi1 li1 ci1, .slice pr1 lr1 cr1, .slice pn1 ln1 cn1] 25)).cell? ⟨w.heap.size, 6, none⟩ = some (.slice pn ln cn) := by simp
  have x01 : ((w.alloc (.cells #[.int .i64 k, .int .i64 a, .int .i64 b, .int .i64 c, .slice pi li ci, .slice pr lr cr, .slice pn ln cn] 25)).alloc (.cells #[.int .i64 k1, .int .i64 a1, .int .i64 b1, .int .i64 c1, .slice pi1 li1 ci1, .slice pr1 lr1 cr1, .slice pn1 ln1 cn1] 25)).cell? ⟨w.heap.size + 1, 0, none⟩ = some (.int .i64 k1) := by simp
  have x11 : ((w.alloc (.cells #[.int .i64 k, .int .i64 a, .int .i64 b, .int .i64 c, .slice pi li ci, .slice pr lr cr, .slice pn ln cn] 25)).alloc (.cells #[.int .i64 k1, .int .i64 a1, .int .i64 b1, .int .i64 c1, .slice pi1 li1 ci1, .slice pr1 lr1 cr1, .slice pn1 ln1 cn1] 25)).cell? ⟨w.heap.size + 1, 1, none⟩ = some (.int .i64 a1) := by simp
  have x21 : ((w.alloc (.cells #[.int .i64 k, .int .i64 a, .int .i64 b, .int .i64 c, .slice pi li ci, .slice pr lr cr, .slice pn ln cn] 25)).alloc (.cells #[.int .i64 k1, .int .i64 a1, .int .i64 b1, .int .i64 c1, .slice pi1 li1 ci1, .slice pr1 lr1 cr1, .slice pn1 ln1 cn1] 25)).cell? ⟨w.heap.size + 1, 2, none⟩ = some (.int .i64 b1) := by simp
  have x31 : ((w.alloc (.cells #[.int .i64 k, .int .i64 a, .int .i64 b, .int .i64 c, .slice pi li ci, .slice pr lr cr, .slice pn ln cn] 25)).alloc (.cells #[.int .i64 k1, .int .i64 a1, .int .i64 b1, .int .i64 c1, .slice pi1 li1 ci1, .slice pr1 lr1 cr1, .slice pn1 ln1 cn1] 25)).cell? ⟨w.heap.size + 1, 3, none⟩ = some (.int .i64 c1) := by simp
  have x41 : ((w.alloc (.cells #[.int .i64 k, .int .i64 a, .int .i64 b, .int .i64 c, .slice pi li ci, .slice pr lr cr, .slice pn ln cn] 25)).alloc (.cells #[.int .i64 k1, .int .i64 a1, .int .i64 b1, .int .i64 c1, .slice pi1 li1 ci1, .slice pr1 lr1 cr1, .slice pn1 ln1 cn1] 25)).cell? ⟨w.heap.size + 1, 4, none⟩ = some (.slice pi1 li1 ci1) := by simp
  have x51 : ((w.alloc (.cells #[.int .i64 k, .int .i64 a, .int .i64 b, .int .i64 c, .slice pi li ci, .slice pr lr cr, .slice pn ln cn] 25)).alloc (.cells #[.int .i64 k1, .int .i64 a1, .int .i64 b1, .int .i64 c1, .slice pi1 li1 ci1, .slice pr1 lr1 cr1, .slice pn1 ln1 cn1] 25)).cell? ⟨w.heap.size + 1, 5, none⟩ = some (.slice pr1 lr1 cr1) := by simp
  have x61 : ((w.alloc (.cells #[.int .i64 k, .int .i64 a, .int .i64 b, .int .i64 c, .slice pi li ci, .slice pr lr cr, .slice pn ln cn] 25)).alloc (.cells #[.int .i64 k1, .int .i64 a1, .int .i64 b1, .int .i64 c1, .slice pi1 li1 ci1, .slice pr1 lr1 cr1, .slice pn1 ln1 cn1] 25)).cell? ⟨w.heap.size + 1, 6, none⟩ = some (.slice pn1 ln1 cn1) := by simp
  replace hI := hI.below hV
  replace hR := hR.below hV
  replace hN := hN.below hV
  replace hI1 := hI1.below hV
  replace hR1 := hR1.below hV
  replace hN1 := hN1.below hV
  obtain ⟨V, hVe⟩ : ∃ V, V = (w.alloc (.cells #[.int .i64 k, .int .i64 a, .int .i64 b, .int .i64 c, .slice pi li ci, .slice pr lr cr, .slice pn ln cn] 25)).alloc (.cells #[.int .i64 k1, .int .i64 a1, .int .i64 b1, .int .i64 c1, .slice pi1 li1 ci1, .slice pr1 lr1 cr1, .slice pn1 ln1 cn1] 25) := ⟨_, rfl⟩
  have HVe : Hid (V = (w.alloc (.cells #[.int .i64 k, .int .i64 a, .int .i64 b, .int .i64 c, .slice pi li ci, .slice pr lr cr, .slice pn ln cn] 25)).alloc (.cells #[.int .i64 k1, .int .i64 a1, .int .i64 b1, .int .i64 c1, .slice pi1 li1 ci1, .slice pr1 lr1 cr1, .slice pn1 ln1 cn1] 25)) := hVe
  rw [← hVe] at hI hR hN hI1 hR1 hN1 x0 x1 x2 x3 x4 x5 x6 x01 x11 x21 x31 x41 x51 x61 hV
  clear hVe
  obtain ⟨M, hM⟩ : ∃ M, M = sameM k a b c k1 a1 b1 c1 ids ids1 rows rows1 nats nats1 := ⟨_, rfl⟩
  have HE : Hid ((((((((k == k1) && (a == a1)) && (b == b1)) && (c == c1)) && decide (ids = ids1)) && decide (rows = rows1)) && decide (nats = nats1)) = M) := by show _ = _; rw [hM]; rfl
  rw [← hM]
  clear hM
  go_enter Try.func15, Try.ntmps15
  go_upto_region 1 with fail
  rw [← HVe.out]
  obtain ⟨G, hG⟩ : ∃ G, G = w.heap.size := ⟨_, rfl⟩
  rw [← hG] at x0 x1 x2 x3 x4 x5 x6 x01 x11 x21 x31 x41 x51 x61
  rw [← hG]
  clear HVe hG
  go_wp2_with fail
  refine (r12si_any _ _ _ _ _ _ _ _ _ hI hI1).mono ?_
  rintro e w1 ⟨rfl, hb1⟩
  replace x0 := bkeep hb1 x0 rfl
  replace x1 := bkeep hb1 x1 rfl
  replace x2 := bkeep hb1 x2 rfl
  replace x3 := bkeep hb1 x3 rfl
  replace x4 := bkeep hb1 x4 rfl
  replace x5 := bkeep hb1 x5 rfl
  replace x6 := bkeep hb1 x6 rfl
  replace x01 := bkeep hb1 x01 rfl
  replace x11 := bkeep hb1 x11 rfl
  replace x21 := bkeep hb1 x21 rfl
  replace x31 := bkeep hb1 x31 rfl
  replace x41 := bkeep hb1 x41 rfl
  replace x51 := bkeep hb1 x51 rfl
  replace x61 := bkeep hb1 x61 rfl
  replace hR := hR.below hb1
  replace hN := hN.below hb1
  replace hR1 := hR1.below hb1
  replace hN1 := hN1.below hb1
  go_wp2_with fail
  refine (r12si_any _ _ _ _ _ _ _ _ _ hR hR1).mono ?_
  rintro e w2 ⟨rfl, hb2⟩
  replace x0 := bkeep hb2 x0 rfl
  replace x1 := bkeep hb2 x1 rfl
  replace x2 := bkeep hb2 x2 rfl
  replace x3 := bkeep hb2 x3 rfl
  replace x4 := bkeep hb2 x4 rfl
  replace x5 := bkeep hb2 x5 rfl
  replace x6 := bkeep hb2 x6 rfl
  replace x01 := bkeep hb2 x01 rfl
  replace x11 := bkeep hb2 x11 rfl
  replace x21 := bkeep hb2 x21 rfl
  replace x31 := bkeep hb2 x31 rfl
  replace x41 := bkeep hb2 x41 rfl
  replace x51 := bkeep hb2 x51 rfl
  replace x61 := bkeep hb2 x61 rfl
  replace hN := hN.below hb2
  replace hN1 := hN1.below hb2
  go_wp2_with fail
  refine (r12sn_any _ _ _ _ _ _ _ _ _ hN hN1).mono ?_
  rintro e w3 ⟨rfl, hb3⟩
  replace x0 := bkeep hb3 x0 rfl
  replace x1 := bkeep hb3 x1 rfl
  replace x2 := bkeep hb3 x2 rfl
  replace x3 := bkeep hb3 x3 rfl
  replace x4 := bkeep hb3 x4 rfl
  replace x5 := bkeep hb3 x5 rfl
  replace x6 := bkeep hb3 x6 rfl
  replace x01 := bkeep hb3 x01 rfl
  replace x11 := bkeep hb3 x11 rfl
  replace x21 := bkeep hb3 x21 rfl
  replace x31 := bkeep hb3 x31 rfl
  replace x41 := bkeep hb3 x41 rfl
  replace x51 := bkeep hb3 x51 rfl
  replace x61 := bkeep hb3 x61 rfl
  have hB := bthen (bthen (bthen hV hb1) hb2) hb3
  clear hV hb1 hb2 hb3 hI hR hN hI1 hR1 hN1
  generalize decide (ids = ids1) = ei at *
  generalize decide (rows = rows1) = er at *
  generalize decide (nats = nats1) = en at *
  obtain ⟨zk, hzk⟩ : ∃ q, (k == k1) = q := ⟨_, rfl⟩
  obtain ⟨za, hza⟩ : ∃ q, (a == a1) = q := ⟨_, rfl⟩
  obtain ⟨zb, hzb⟩ : ∃ q, (b == b1) = q := ⟨_, rfl⟩
  obtain ⟨zc, hzc⟩ : ∃ q, (c == c1) = q := ⟨_, rfl⟩
  rw [hzk, hza, hzb, hzc] at HE
  cases zk with
  | false =>
    go_wp2_with fail
    first | exact ⟨ret_bool (by have := HE.out; simpa using this), hB⟩ | (go_ret; exact ⟨ret_bool (by have := HE.out; simpa using this), hB⟩)
  | true =>
    cases za with
    | false =>
      go_wp2_with fail
      first | exact ⟨ret_bool (by have := HE.out; simpa using this), hB⟩ | (go_ret; exact ⟨ret_bool (by have := HE.out; simpa using this), hB⟩)
    | true =>
      cases zb with
      | false =>
        go_wp2_with fail
        first | exact ⟨ret_bool (by have := HE.out; simpa using this), hB⟩ | (go_ret; exact ⟨ret_bool (by have := HE.out; simpa using this), hB⟩)
      | true =>
        cases zc with
        | false =>
          go_wp2_with fail
          first | exact ⟨ret_bool (by have := HE.out; simpa using this), hB⟩ | (go_ret; exact ⟨ret_bool (by have := HE.out; simpa using this), hB⟩)
        | true =>
          cases ei with
          | false =>
            go_wp2_with fail
            first | exact ⟨ret_bool (by have := HE.out; simpa using this), hB⟩ | (go_ret; exact ⟨ret_bool (by have := HE.out; simpa using this), hB⟩)
          | true =>
            cases er with
            | false =>
              go_wp2_with fail
              first | exact ⟨ret_bool (by have := HE.out; simpa using this), hB⟩ | (go_ret; exact ⟨ret_bool (by have := HE.out; simpa using this), hB⟩)
            | true =>
              cases en with
              | false =>
                go_wp2_with fail
                first | exact ⟨ret_bool (by have := HE.out; simpa using this), hB⟩ | (go_ret; exact ⟨ret_bool (by have := HE.out; simpa using this), hB⟩)
              | true =>
                go_wp2_with fail
                first | exact ⟨ret_bool (by have := HE.out; simpa using this), hB⟩ | (go_ret; exact ⟨ret_bool (by have := HE.out; simpa using this), hB⟩)
end Go.Proofs.Ytnbdbahfekneoaa

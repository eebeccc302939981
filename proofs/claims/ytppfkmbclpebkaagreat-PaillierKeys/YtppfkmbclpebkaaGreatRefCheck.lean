/-
  The contracts of the document's bits and Check.
-/
import Derived.Test.YtppfkmbclpebkaaGreatRefWit
import Derived.Test.YtppfkmbclpebkaaGreatRefGcd
import Derived.Test.YtppfkmbclpebkaaGreatClass
import Derived.Test.YtppfkmbclpebkaaGreatRefA
import Derived.Test.YtppfkmbclpebkaaGreatNatD
import Derived.Test.YtppfkmbclpebkaaGreatModA
namespace Go.Proofs.YtppfkmbclpebkaaGreat
open Go.RowKit

theorem least_exists (n : Nat) : ∃ d, LeastOf n d := by
  have key : ∀ m, (∀ j, 2 ≤ j → j < m → j * j ≤ n → ¬ j ∣ n) ∨ ∃ d, LeastOf n d := by
    intro m
    induction m with
    | zero => exact .inl fun j _ h => by omega
    | succ m ih =>
      rcases ih with ih | ih
      · by_cases h : 2 ≤ m ∧ m * m ≤ n ∧ m ∣ n
        · refine .inr ⟨m, .inl ⟨h.1, h.2.1, h.2.2, fun j h1 h2 h3 => ih j h1 h2 ?_ h3⟩⟩
          exact Nat.le_trans (Nat.mul_le_mul (by omega) (by omega)) h.2.1
        · refine .inl fun j h1 h2 h3 h4 => ?_
          by_cases e : j = m
          · subst e; exact h ⟨h1, h3, h4⟩
          · exact ih j h1 (by omega) h3 h4
      · exact .inr ih
  rcases key (n + 1) with h | h
  · refine ⟨n, .inr ⟨rfl, fun j h1 h2 => h j h1 ?_ h2⟩⟩
    have := Nat.le_mul_of_pos_left j (show 0 < j by omega)
    omega
  · exact h

theorem small_one {ls : List Int} (hd : Digs 18446744073709551616 ls) (hr : rightB ls = true) : smallZ ls = 1 ↔ val 18446744073709551616 ls = 1 := by
  by_cases hl : ls.length ≤ 1
  · have hv := val_lt_pow (B := 18446744073709551616) (by decide) hd (k := 1) hl
    rw [small_limb hd hr rfl (by omega)]
  · have h0 : smallZ ls = 0 := by unfold smallZ; rw [hr, if_neg (by simp; omega)]
    rw [h0]
    constructor
    · intro h; cases h
    · intro h
      have := len_le (B := 18446744073709551616) (by decide) hd (right_top hr) (k := 1) (by rw [h]; omega)
      omega

theorem bits_limb (n : Nat) : bitsZ (ofZ (n : Int)) = (blN n : Int) := by
  unfold ofZ
  split
  · rename_i h
    obtain rfl : n = 0 := by omega
    decide
  · rename_i h
    have hr : rightB [(n : Int)] = true := by simp [rightB]; omega
    simp [bitsZ, hr, bl, blN]

/-- What is told of whether two numbers are a key. -/
def CheckT (P Q : Nat) (e : Ending) : Prop := (KeyOk P Q ∧ e = .returned (.int .i64 0)) ∨ (¬ KeyOk P Q ∧ e = .returned (.int .i64 9))

set_option maxHeartbeats 400000 in
theorem rbits_any (n : Nat) (w : World) (hn : n < 18446744073709551616) :
    Calls Tryz.prog 77 #[.int .u64 (n : Int)] w fun e w' => e = .returned (.int .i64 (blN n : Int)) ∧ Below w.heap.size w w' := by
  go_enter Tryz.func77, Tryz.ntmps77
  go_wp2_with fail
  refine (refOf_any (n : Int) _ (by omega)).mono ?_
  rintro e w1 ⟨a, l, c, rfl, hA, hb⟩
  have HB := refBits_any _ _ _ _ _ hA
  rw [bits_limb] at HB
  go_wp2_with fail
  refine HB.mono ?_
  rintro e w2 ⟨rfl, rfl⟩
  go_wp2_with fail
  go_ret
  exact ⟨rfl, hb⟩

/-- A product of two small numbers. -/
theorem rmul_small (X Y : Nat) (hX : 0 < X ∧ X < 1099511627776) (hY : 0 < Y ∧ Y < 1099511627776) (a b : Option Addr) (la ca lb cb : Nat) (w : World) (h : Nums w a la ca (ofZ (X : Int))) (h' : Nums w b lb cb (ofZ (Y : Int))) :
    Calls Tryz.prog 39 #[.slice a la ca, .slice b lb cb] w fun e w' => ∃ a' n c ls err, e = .returned (.tuple #[.slice a' n c, .int .i64 err]) ∧ Nums w' a' n c ls ∧ rightB ls = true ∧
      val 18446744073709551616 ls = ((X * Y : Nat) : Int) ∧ (a' = none → c = 0) ∧ Below w.heap.size w w' := by
  refine (refMul_any _ _ _ _ _ _ _ _ _ h h').mono ?_
  rintro e w' ⟨a', n, c, ls, err, rfl, hL, hR, hb⟩
  obtain ⟨-, xr, xv⟩ := ofZ_limb (x := (X : Int)) (by omega)
  obtain ⟨-, yr, yv⟩ := ofZ_limb (x := (Y : Int)) (by omega)
  have hr := hR.got xr yr
  rw [xv, yv, ← Int.natCast_mul] at hr
  have hp : 0 < X * Y := Nat.mul_pos hX.1 hY.1
  have hq : X * Y < 1099511627776 * 1099511627776 := Nat.mul_lt_mul_of_lt_of_lt hX.2 hY.2
  have hbig : ((X * Y : Nat) : Int) < 18446744073709551616 ^ 64 := by
    have e2 : (18446744073709551616 : Int) ^ 2 ≤ 18446744073709551616 ^ 64 := by decide
    have e1 : (18446744073709551616 : Int) ^ 2 = 340282366920938463463374607431768211456 := by decide
    omega
  obtain ⟨rfl, hd, ht, hl, hv⟩ : err = 0 ∧ Digs 18446744073709551616 ls ∧ Top ls ∧ ls.length ≤ 64 ∧ val 18446744073709551616 ls = ((X * Y : Nat) : Int) := by
    rcases hr with h | ⟨_, _, zs, hd, ht, hv, hl⟩
    · exact h
    · exfalso
      have := len_le (B := 18446744073709551616) (by decide) hd ht (k := 64) (by rw [hv]; exact hbig)
      omega
  refine ⟨a', n, c, ls, 0, rfl, hL, right_mk hl ht, hv, ?_, hb⟩
  intro e
  have : ls ≠ [] := by rintro rfl; simp [val] at hv; omega
  have hn : 0 < n := by rw [← hL.hlen]; exact List.length_pos_iff.2 this
  obtain ⟨_, _, h0, _⟩ := hL.cells hn
  rw [e] at h0
  cases h0

set_option maxRecDepth 20000 in
set_option maxHeartbeats 6400000 in
theorem rcheck_any (P Q : Nat) (w : World) (hP : P < 18446744073709551616) (hQ : Q < 18446744073709551616) :
    Calls Tryz.prog 38 #[.agg #[.int .u64 (P : Int), .int .u64 (Q : Int)]] w fun e w' => CheckT P Q e ∧ Below w.heap.size w w' := by
  have hV := (Below.refl w.heap.size w).alloc (Nat.le_refl _) (.cells #[.int .u64 (P : Int), .int .u64 (Q : Int)] 24)
  have c0 : (w.alloc (.cells #[.int .u64 (P : Int), .int .u64 (Q : Int)] 24)).cell? ⟨w.heap.size, 0, none⟩ = some (.int .u64 (P : Int)) := by simp
  have c1 : (w.alloc (.cells #[.int .u64 (P : Int), .int .u64 (Q : Int)] 24)).cell? ⟨w.heap.size, 1, none⟩ = some (.int .u64 (Q : Int)) := by simp
  go_enter Tryz.func38, Tryz.ntmps38
  go_upto_region 1 with fail
  generalize w.alloc (.cells #[.int .u64 (P : Int), .int .u64 (Q : Int)] 24) = V at *
  obtain ⟨lp, hlp⟩ := least_exists P
  obtain ⟨lq, hlq⟩ := least_exists Q
  have hne := SW.inhabited V
  have q0 := fun x : SW V => x.cell c0
  have q1 := fun x : SW V => x.cell c1
  have HL : Hid (∀ n l : Nat, LeastOf n l → n < 1099511627776 → ∀ x : SW V, Calls Tryz.prog 76 #[.int .u64 (n : Int)] x.w fun e w' => e = .returned (.int .u64 (l : Int)) ∧ ∃ y : SW V, w' = y.w) := fun n l hl h x => (rleast_any n x.w h).mono (by rintro e w' ⟨d, rfl, hd, -, rfl⟩; exact ⟨by rw [hd.unique hl], x, rfl⟩)
  have HB : Hid (∀ n : Nat, n < 18446744073709551616 → ∀ x : SW V, Calls Tryz.prog 77 #[.int .u64 (n : Int)] x.w fun e w' => e = .returned (.int .i64 (blN n : Int)) ∧ ∃ y : SW V, w' = y.w) := fun n h x => Calls.inClass (rbits_any n _ h)
  have HNo : Hid (¬ KeyOk P Q → CheckT P Q (.returned (.int .i64 9))) := fun h => .inr ⟨h, rfl⟩
  have HV : Hid (∀ x : SW V, Below w.heap.size w x.w) := fun x => hV.trans (x.below.mono hV.size)
  by_cases g0 : (P : Int) < 128
  · have HR : Hid (CheckT P Q (.returned (.int .i64 9))) := HNo.out (fun h => by have := h.1; omega)
    clear HL HB HNo hlp hlq hV
    refine wp_region_class V (by kernel_rfl) (by kernel_rfl) (Below.refl _ _) ?_
    repeat (go_big_quiet_step (fail))
    refine wpQuiet_nil ?_
    intro _ hw'
    obtain ⟨x, hw''⟩ := hw'
    subst hw''
    clear q0 q1
    go_wp2_with fail
    go_ret
    exact ⟨HR.out, HV.out x⟩
  have e0 : decide ((P : Int) < 128) = false := decide_eq_false g0
  by_cases g1 : (Q : Int) < 128
  · have HR : Hid (CheckT P Q (.returned (.int .i64 9))) := HNo.out (fun h => by have := h.1; omega)
    clear HNo hlp hlq hV
    refine wp_region_class V (by kernel_rfl) (by kernel_rfl) (Below.refl _ _) ?_
    repeat (go_big_quiet_step (first | (go_at_call 76; exact HL.out _ _ (by assumption) (by assumption) _) | (go_at_call 77; exact HB.out _ (by assumption) _)))
    refine wpQuiet_nil ?_
    intro _ hw'
    obtain ⟨x, hw''⟩ := hw'
    subst hw''
    clear q0 q1
    go_wp2_with fail
    go_ret
    exact ⟨HR.out, HV.out x⟩
  have e1 : decide ((Q : Int) < 128) = false := decide_eq_false g1
  by_cases g2 : (1099511627776 : Int) ≤ (P : Int)
  · have HR : Hid (CheckT P Q (.returned (.int .i64 9))) := HNo.out (fun h => by have := h.2.1; omega)
    clear HNo hlp hlq hV
    refine wp_region_class V (by kernel_rfl) (by kernel_rfl) (Below.refl _ _) ?_
    repeat (go_big_quiet_step (first | (go_at_call 76; exact HL.out _ _ (by assumption) (by assumption) _) | (go_at_call 77; exact HB.out _ (by assumption) _)))
    refine wpQuiet_nil ?_
    intro _ hw'
    obtain ⟨x, hw''⟩ := hw'
    subst hw''
    clear q0 q1
    go_wp2_with fail
    go_ret
    exact ⟨HR.out, HV.out x⟩
  have e2 : decide ((1099511627776 : Int) ≤ (P : Int)) = false := decide_eq_false g2
  by_cases g3 : (1099511627776 : Int) ≤ (Q : Int)
  · have HR : Hid (CheckT P Q (.returned (.int .i64 9))) := HNo.out (fun h => by have := h.2.1; omega)
    clear HNo hlp hlq hV
    refine wp_region_class V (by kernel_rfl) (by kernel_rfl) (Below.refl _ _) ?_
    repeat (go_big_quiet_step (first | (go_at_call 76; exact HL.out _ _ (by assumption) (by assumption) _) | (go_at_call 77; exact HB.out _ (by assumption) _)))
    refine wpQuiet_nil ?_
    intro _ hw'
    obtain ⟨x, hw''⟩ := hw'
    subst hw''
    clear q0 q1
    go_wp2_with fail
    go_ret
    exact ⟨HR.out, HV.out x⟩
  have e3 : decide ((1099511627776 : Int) ≤ (Q : Int)) = false := decide_eq_false g3
  have lP : P < 1099511627776 := by omega
  have lQ : Q < 1099511627776 := by omega
  have pP := hlp.isPr (by omega)
  have pQ := hlq.isPr (by omega)
  by_cases g4 : ¬ lp = P
  · have HR : Hid (CheckT P Q (.returned (.int .i64 9))) := HNo.out (fun h => by exact g4 (pP.2 h.2.2.1))
    have e4 : ((lp : Int) != (P : Int)) = true := by simp; omega
    clear g4 pP pQ
    clear HNo hV
    refine wp_region_class V (by kernel_rfl) (by kernel_rfl) (Below.refl _ _) ?_
    repeat (go_big_quiet_step (first | (go_at_call 76; exact HL.out _ _ (by assumption) (by assumption) _) | (go_at_call 77; exact HB.out _ (by assumption) _)))
    refine wpQuiet_nil ?_
    intro _ hw'
    obtain ⟨x, hw''⟩ := hw'
    subst hw''
    clear q0 q1
    go_wp2_with fail
    go_ret
    exact ⟨HR.out, HV.out x⟩
  have e4 : P = lp := by omega
  subst e4
  by_cases g5 : ¬ lq = Q
  · have HR : Hid (CheckT P Q (.returned (.int .i64 9))) := HNo.out (fun h => by exact g5 (pQ.2 h.2.2.2.1))
    have e5 : ((lq : Int) != (Q : Int)) = true := by simp; omega
    clear g4 g5 pP pQ
    clear HNo hV
    refine wp_region_class V (by kernel_rfl) (by kernel_rfl) (Below.refl _ _) ?_
    repeat (go_big_quiet_step (first | (go_at_call 76; exact HL.out _ _ (by assumption) (by assumption) _) | (go_at_call 77; exact HB.out _ (by assumption) _)))
    refine wpQuiet_nil ?_
    intro _ hw'
    obtain ⟨x, hw''⟩ := hw'
    subst hw''
    clear q0 q1
    go_wp2_with fail
    go_ret
    exact ⟨HR.out, HV.out x⟩
  have e5 : Q = lq := by omega
  subst e5
  by_cases g6 : P = Q
  · have HR : Hid (CheckT P Q (.returned (.int .i64 9))) := HNo.out (fun h => by exact h.2.2.2.2.1 g6)
    have e6 : ((P : Int) == (Q : Int)) = true := by simp; omega
    clear g4 g5 g6 pP pQ
    clear HNo hV
    refine wp_region_class V (by kernel_rfl) (by kernel_rfl) (Below.refl _ _) ?_
    repeat (go_big_quiet_step (first | (go_at_call 76; exact HL.out _ _ (by assumption) (by assumption) _) | (go_at_call 77; exact HB.out _ (by assumption) _)))
    refine wpQuiet_nil ?_
    intro _ hw'
    obtain ⟨x, hw''⟩ := hw'
    subst hw''
    clear q0 q1
    go_wp2_with fail
    go_ret
    exact ⟨HR.out, HV.out x⟩
  have e6 : ((P : Int) == (Q : Int)) = false := by simp; omega
  by_cases g7 : ¬ blN P = blN Q
  · have HR : Hid (CheckT P Q (.returned (.int .i64 9))) := HNo.out (fun h => by exact g7 h.2.2.2.2.2.1)
    have e7 : ((blN P : Int) != (blN Q : Int)) = true := by simp; omega
    clear g4 g5 g6 g7 pP pQ
    clear HNo hV
    refine wp_region_class V (by kernel_rfl) (by kernel_rfl) (Below.refl _ _) ?_
    repeat (go_big_quiet_step (first | (go_at_call 76; exact HL.out _ _ (by assumption) (by assumption) _) | (go_at_call 77; exact HB.out _ (by assumption) _)))
    refine wpQuiet_nil ?_
    intro _ hw'
    obtain ⟨x, hw''⟩ := hw'
    subst hw''
    clear q0 q1
    go_wp2_with fail
    go_ret
    exact ⟨HR.out, HV.out x⟩
  have e7 : ((blN P : Int) != (blN Q : Int)) = false := by simp; omega
  have HP : Hid (Pr P ∧ Pr Q ∧ P ≠ Q ∧ blN P = blN Q) := ⟨pP.1 rfl, pQ.1 rfl, g6, by omega⟩
  clear g4 g5 g6 g7 pP pQ
  refine wp_region_class V (by kernel_rfl) (by kernel_rfl) (Below.refl _ _) ?_
  repeat (go_big_quiet_step (first | (go_at_call 76; exact HL.out _ _ (by assumption) (by assumption) _) | (go_at_call 77; exact HB.out _ (by assumption) _)))
  refine wpQuiet_nil ?_
  intro _ hw'
  obtain ⟨x, hw''⟩ := hw'
  subst hw''
  replace q0 := q0 x
  replace q1 := q1 x
  have hx := HV.out x
  clear HL HB HV hV hlp hlq c0 c1 e0 e1 e2 e3 e6 e7
  generalize x.w = V3 at *
  have HOf : Hid (∀ (n : Nat) (wx : World), n < 18446744073709551616 → Below V3.heap.size V3 wx → Calls Tryz.prog 40 #[.int .u64 (n : Int)] wx fun e w' => ∃ pa pn pc, e = .returned (.slice pa pn pc) ∧ (Nums w' pa pn pc (ofZ (n : Int)) ∧ Below wx.heap.size wx w' ∧ Below V3.heap.size V3 w') ∧ w'.cell? ⟨w.heap.size, 0, none⟩ = some (.int .u64 (P : Int)) ∧ w'.cell? ⟨w.heap.size, 1, none⟩ = some (.int .u64 (Q : Int))) := by
    intro n wx hn hbx
    refine (refOf_any (n : Int) wx (by omega)).mono ?_
    rintro e w' ⟨pa, pn, pc, rfl, hA, hb⟩
    have hb' := hbx.trans (hb.mono hbx.size)
    exact ⟨pa, pn, pc, rfl, ⟨hA, hb, hb'⟩, bkeep hb' q0 rfl, bkeep hb' q1 rfl⟩
  have HMu : Hid (∀ (a b : Option Addr) (la ca lb cb : Nat) (wx : World), Nums wx a la ca (ofZ (P : Int)) → Nums wx b lb cb (ofZ (Q : Int)) → Below V3.heap.size V3 wx → Calls Tryz.prog 39 #[.slice a la ca, .slice b lb cb] wx fun e w' => ∃ a' n c ls err, e = .returned (.tuple #[.slice a' n c, .int .i64 err]) ∧ (Nums w' a' n c ls ∧ rightB ls = true ∧ val 18446744073709551616 ls = ((P * Q : Nat) : Int) ∧ (a' = none → c = 0) ∧ Below V3.heap.size V3 w')) := by
    intro a b la ca lb cb wx h1 h2 hbx
    refine (rmul_small P Q (by omega) (by omega) a b la ca lb cb wx h1 h2).mono ?_
    rintro e w' ⟨a', n, c, ls, err, rfl, k1, k2, k3, k4, k5⟩
    exact ⟨a', n, c, ls, err, rfl, k1, k2, k3, k4, hbx.trans (k5.mono hbx.size)⟩
  go_upto_region 3 with fail
  go_cut [3, 4] (fun sv ev wx => ∃ a n c ls err, sv = .slice a n c ∧ ev = .int .i64 err ∧ Nums wx a n c ls ∧ rightB ls = true ∧ Hid (val 18446744073709551616 ls = ((P * Q : Nat) : Int)) ∧ (a = none → c = 0) ∧ Below V3.heap.size V3 wx)
  case first =>
    clear HP HNo hx
    go_region_with (first
      | (go_at_call 40; refine (HOf.out _ _ ?_ ?_).mono ?_; (assumption); (exact ⟨hA.2.2.os, hA.2.2.tape, hA.2.2.output, hA.2.2.size, hA.2.2.block⟩); rintro e wB ⟨qa, qn, qc, rfl, hB, p2, p3⟩; have hA2 := hA.1.below (w' := wB) ⟨hB.2.1.os, hB.2.1.tape, hB.2.1.output, hB.2.1.size, hB.2.1.block⟩)
      | (go_at_call 40; refine (HOf.out _ _ ?_ ?_).mono ?_; (assumption); (exact ⟨rfl, rfl, rfl, Nat.le_refl _, fun _ _ => rfl⟩); rintro e wA ⟨pa, pn, pc, rfl, hA, p0, p1⟩)
      | (go_at_call 39; refine (HMu.out _ _ _ _ _ _ _ ?_ ?_ ?_).mono ?_; (first | exact hA2.alike (fun _ => rfl) | exact hB.1.alike (fun _ => rfl)); (first | exact hB.1.alike (fun _ => rfl) | exact hA2.alike (fun _ => rfl)); (exact ⟨hB.2.2.os, hB.2.2.tape, hB.2.2.output, hB.2.2.size, hB.2.2.block⟩); rintro e wM ⟨ma, mn, mc, ls, err, rfl, hM⟩))
    all_goals
      clear HOf HMu hA hB hA2
      go_wp2_with fail
      go_meet
      case rel => exact ⟨ma, mn, mc, ls, err, rfl, rfl, hM.1, hM.2.1, hM.2.2.1, hM.2.2.2.1, ⟨hM.2.2.2.2.os, hM.2.2.2.2.tape, hM.2.2.2.2.output, hM.2.2.2.2.size, hM.2.2.2.2.block⟩⟩
  case rest =>
    obtain ⟨na, nn, nc, ns, ne, rfl, rfl, hN, rN, HN, zN, hb3⟩ := hcut
    replace q0 := bkeep hb3 q0 rfl
    replace q1 := bkeep hb3 q1 rfl
    have hx4 := hx.trans (hb3.mono hx.size)
    have hPi : 128 ≤ (P : Int) := by omega
    have hQi : 128 ≤ (Q : Int) := by omega
    have hPj : (P : Int) < 1099511627776 := by omega
    have hQj : (Q : Int) < 1099511627776 := by omega
    have wP : IntKind.u64.wrap ((P : Int) - 1) = ((P - 1 : Nat) : Int) := by rw [wrap64]; omega
    have wQ : IntKind.u64.wrap ((Q : Int) - 1) = ((Q - 1 : Nat) : Int) := by rw [wrap64]; omega
    have HwP : Hid (0 ≤ IntKind.u64.wrap ((P : Int) - 1) ∧ IntKind.u64.wrap ((P : Int) - 1) < 18446744073709551616) := by show _ ∧ _; rw [wP]; omega
    have HwQ : Hid (0 ≤ IntKind.u64.wrap ((Q : Int) - 1) ∧ IntKind.u64.wrap ((Q : Int) - 1) < 18446744073709551616) := by show _ ∧ _; rw [wQ]; omega
    clear HOf HMu hx hb3
    obtain ⟨V4, hV4⟩ : ∃ V4, V4 = wc := ⟨_, rfl⟩
    subst hV4
    have HOf : Hid (∀ (n : Int) (wx : World), 0 ≤ n ∧ n < 18446744073709551616 → Below V4.heap.size V4 wx → Calls Tryz.prog 40 #[.int .u64 n] wx fun e w' => ∃ pa pn pc, e = .returned (.slice pa pn pc) ∧ (Nums w' pa pn pc (ofZ n) ∧ Below wx.heap.size wx w' ∧ Below V4.heap.size V4 w') ∧ w'.cell? ⟨w.heap.size, 0, none⟩ = some (.int .u64 (P : Int)) ∧ w'.cell? ⟨w.heap.size, 1, none⟩ = some (.int .u64 (Q : Int))) := by
      intro n wx hn hbx
      refine (refOf_any n wx hn).mono ?_
      rintro e w' ⟨pa, pn, pc, rfl, hA, hb⟩
      have hb' := hbx.trans (hb.mono hbx.size)
      exact ⟨pa, pn, pc, rfl, ⟨hA, hb, hb'⟩, bkeep hb' q0 rfl, bkeep hb' q1 rfl⟩
    have HMu : Hid (∀ (a b : Option Addr) (la ca lb cb : Nat) (wx : World), Nums wx a la ca (ofZ (IntKind.u64.wrap ((P : Int) - 1))) → Nums wx b lb cb (ofZ (IntKind.u64.wrap ((Q : Int) - 1))) → Below V4.heap.size V4 wx → Calls Tryz.prog 39 #[.slice a la ca, .slice b lb cb] wx fun e w' => ∃ a' n c ls err, e = .returned (.tuple #[.slice a' n c, .int .i64 err]) ∧ (Nums w' a' n c ls ∧ rightB ls = true ∧ val 18446744073709551616 ls = (((P - 1) * (Q - 1) : Nat) : Int) ∧ (a' = none → c = 0) ∧ Below V4.heap.size V4 w')) := by
      intro a b la ca lb cb wx h1 h2 hbx
      rw [wP] at h1
      rw [wQ] at h2
      refine (rmul_small (P - 1) (Q - 1) (by omega) (by omega) a b la ca lb cb wx h1 h2).mono ?_
      rintro e w' ⟨a', n, c, ls, err, rfl, k1, k2, k3, k4, k5⟩
      exact ⟨a', n, c, ls, err, rfl, k1, k2, k3, k4, hbx.trans (k5.mono hbx.size)⟩
    clear wP wQ hPi hPj hQi hQj
    go_upto_region 4 with fail
    go_cut [5, 6] (fun sv ev wx => ∃ a n c ls err, sv = .slice a n c ∧ ev = .int .i64 err ∧ Nums wx a n c ls ∧ rightB ls = true ∧ Hid (val 18446744073709551616 ls = (((P - 1) * (Q - 1) : Nat) : Int)) ∧ (a = none → c = 0) ∧ Below V4.heap.size V4 wx)
    case first =>
      clear HP HNo hx4 hN rN HN zN
      go_region_with (first
        | (go_at_call 40; refine (HOf.out _ _ ?_ ?_).mono ?_; (first | exact HwP.out | exact HwQ.out); (exact ⟨hA.2.2.os, hA.2.2.tape, hA.2.2.output, hA.2.2.size, hA.2.2.block⟩); rintro e wB ⟨qa, qn, qc, rfl, hB, p2, p3⟩; have hA2 := hA.1.below (w' := wB) ⟨hB.2.1.os, hB.2.1.tape, hB.2.1.output, hB.2.1.size, hB.2.1.block⟩)
        | (go_at_call 40; refine (HOf.out _ _ ?_ ?_).mono ?_; (first | exact HwP.out | exact HwQ.out); (exact ⟨rfl, rfl, rfl, Nat.le_refl _, fun _ _ => rfl⟩); rintro e wA ⟨pa, pn, pc, rfl, hA, p0, p1⟩)
        | (go_at_call 39; refine (HMu.out _ _ _ _ _ _ _ ?_ ?_ ?_).mono ?_; (first | exact hA2.alike (fun _ => rfl) | exact hB.1.alike (fun _ => rfl)); (first | exact hB.1.alike (fun _ => rfl) | exact hA2.alike (fun _ => rfl)); (exact ⟨hB.2.2.os, hB.2.2.tape, hB.2.2.output, hB.2.2.size, hB.2.2.block⟩); rintro e wM ⟨ma, mn, mc, ls, err, rfl, hM⟩))
      all_goals
        clear HOf HMu hA hB hA2
        go_wp2_with fail
        go_meet
        case rel => exact ⟨ma, mn, mc, ls, err, rfl, rfl, hM.1, hM.2.1, hM.2.2.1, hM.2.2.2.1, ⟨hM.2.2.2.2.os, hM.2.2.2.2.tape, hM.2.2.2.2.output, hM.2.2.2.2.size, hM.2.2.2.2.block⟩⟩
    case rest =>
      obtain ⟨fa, fn, fc, fs, fe, rfl, rfl, hF, rF, HF, zF, hb4⟩ := hcut
      have hN5 := hN.below hb4
      have hx5 := hx4.trans (hb4.mono hx4.size)
      clear HOf HMu hN hx4 hb4 q0 q1
      go_wp2_with fail
      refine (refGcd_any _ _ _ _ _ _ _ _ _ hN5 hF zN zF).mono ?_
      rintro e w6 ⟨ga, gn, gc, gs, ge, rfl, hG, hR, hb6⟩
      have hx6 := hx5.trans (hb6.mono hx5.size)
      have HK : Hid (smallZ gs = 1 ↔ KeyOk P Q) := by
        show _ ↔ _
        unfold ResGcd at hR
        rw [rN, rF, if_pos (by rfl), HN.out, HF.out] at hR
        rw [small_one hR.2.1 hR.2.2.1, hR.2.2.2]
        unfold gz
        rw [Int.toNat_natCast, Int.toNat_natCast]
        constructor
        · intro h
          exact ⟨⟨by omega, by omega⟩, ⟨lP, lQ⟩, HP.out.1, HP.out.2.1, HP.out.2.2.1, HP.out.2.2.2, by omega⟩
        · intro h
          have := h.2.2.2.2.2.2
          omega
      have hS := refSmall_any _ _ _ _ _ hG
      clear hN5 hF rN rF HN HF zN zF hx5 hb6 hR HP
      obtain ⟨z, hz⟩ : ∃ z, z = smallZ gs := ⟨_, rfl⟩
      obtain ⟨zb, hzb⟩ : ∃ zb, zb = smallB gs := ⟨_, rfl⟩
      rw [← hz, ← hzb] at hS
      have HZ : Hid (z = 1 ↔ KeyOk P Q) := by show _ ↔ _; rw [hz]; exact HK.out
      clear hz hzb HK
      go_wp2_with fail
      refine hS.mono ?_
      rintro e w7 ⟨rfl, rfl⟩
      by_cases hz1 : z = 1
      · have HR : Hid (CheckT P Q (.returned (.int .i64 0))) := .inl ⟨HZ.out.1 hz1, rfl⟩
        have hzd : (z != 1) = false := by simp [hz1]
        clear HZ HNo hS
        go_wp2
        go_ret
        exact ⟨HR.out, hx6⟩
      · have HR : Hid (CheckT P Q (.returned (.int .i64 9))) := HNo.out (fun h => hz1 (HZ.out.2 h))
        have hzd : (z != 1) = true := by simp [hz1]
        clear HZ HNo hS
        go_wp2
        go_ret
        exact ⟨HR.out, hx6⟩
end Go.Proofs.YtppfkmbclpebkaaGreat

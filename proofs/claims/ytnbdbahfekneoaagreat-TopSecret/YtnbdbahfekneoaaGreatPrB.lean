/-
  The contracts of the document's bits and Check.
  Contracts of the program's own ofKey, apart and Check.
-/
import Derived.Test.YtnbdbahfekneoaaGreatPrA
import Derived.Test.YtnbdbahfekneoaaGreatRefGcd
import Derived.Test.YtnbdbahfekneoaaGreatClass
import Derived.Test.YtnbdbahfekneoaaGreatRefA
import Derived.Test.YtnbdbahfekneoaaGreatNatD
import Derived.Test.YtnbdbahfekneoaaGreatModA
import Derived.Test.YtnbdbahfekneoaaGreatGcdC
import Derived.Test.YtnbdbahfekneoaaGreatNatC
namespace Go.Proofs.YtnbdbahfekneoaaGreat
open Go.RowKit

theorem least_exists (n : Nat) : ∃ d, LeastOf n d := by
  have key : ∀ m, (∀ j, 2 ≤ j → j < m → j * j ≤ n → ¬ j ∣ n) ∨ ∃ d, LeastOf n d := by
    intro m
    induction m with
    | zero => exact .inl fun j _ h => by omega
    | succ m ih =>
      rcases ih with ih | ih
      · by_cases h : 2 ≤ m ∧ m * m ≤ n ∧ m ∣ n
        · refine .inr ⟨m, .inl ⟨h.1, h.2.1, h.2.2, fun j h1 h2 h3 => ih j h1 h2 ?_ h3⟩⟩
          exact Nat.le_trans (Nat.mul_le_mul (by omega) (by omega)) h.2.1
        · refine .inl fun j h1 h2 h3 h4 => ?_
          by_cases e : j = m
          · subst e; exact h ⟨h1, h3, h4⟩
          · exact ih j h1 (by omega) h3 h4
      · exact .inr ih
  rcases key (n + 1) with h | h
  · refine ⟨n, .inr ⟨rfl, fun j h1 h2 => h j h1 ?_ h2⟩⟩
    have := Nat.le_mul_of_pos_left j (show 0 < j by omega)
    omega
  · exact h

theorem small_one {ls : List Int} (hd : Digs 18446744073709551616 ls) (hr : rightB ls = true) : smallZ ls = 1 ↔ val 18446744073709551616 ls = 1 := by
  by_cases hl : ls.length ≤ 1
  · have hv := val_lt_pow (B := 18446744073709551616) (by decide) hd (k := 1) hl
    rw [small_limb hd hr rfl (by omega)]
  · have h0 : smallZ ls = 0 := by unfold smallZ; rw [hr, if_neg (by simp; omega)]
    rw [h0]
    constructor
    · intro h; cases h
    · intro h
      have := len_le (B := 18446744073709551616) (by decide) hd (right_top hr) (k := 1) (by rw [h]; omega)
      omega

theorem bits_limb (n : Nat) : bitsZ (ofZ (n : Int)) = (blN n : Int) := by
  unfold ofZ
  split
  · rename_i h
    obtain rfl : n = 0 := by omega
    decide
  · rename_i h
    have hr : rightB [(n : Int)] = true := by simp [rightB]; omega
    simp [bitsZ, hr, bl, blN]

/-- What is told of whether two numbers are a key. -/
def CheckT (P Q : Nat) (e : Ending) : Prop := (KeyOk P Q ∧ e = .returned (.int .i64 0)) ∨ (¬ KeyOk P Q ∧ e = .returned (.int .i64 9))


end Go.Proofs.YtnbdbahfekneoaaGreat

namespace Go.Proofs.YtnbdbahfekneoaaGreat
open Go.RowKit

/-- A prime of as many bits as a key's may have. -/
def okB (n : Nat) : Bool := decide (128 ≤ n) && (decide (n < 1099511627776) && prB n)
theorem okB_iff (n : Nat) : okB n = true ↔ 128 ≤ n ∧ n < 1099511627776 ∧ Pr n := by
  unfold okB
  rw [Bool.and_eq_true, Bool.and_eq_true, decide_eq_true_iff, decide_eq_true_iff, prB_iff]
/-- The product of two, and that of both less 1, have no common divisor above 1. -/
def apB (P Q : Nat) : Bool := decide (Nat.gcd (P * Q) ((P - 1) * (Q - 1)) = 1)

theorem bl_low {n : Nat} (h : n < 18446744073709551616) : (8 : Int) ≤ bl (n : Int) ↔ 128 ≤ n := by
  unfold bl
  rw [Int.toNat_natCast]
  have h1 := lt_bl n h
  constructor
  · intro h8
    rcases Nat.eq_zero_or_pos n with rfl | h0
    · have : Lib.bitLen 0 = 0 := by decide
      omega
    · have h2 := le_bl n h h0
      have h3 : 2 ^ 7 ≤ 2 ^ (Lib.bitLen n - 1) := Nat.pow_le_pow_right (by omega) (by omega)
      omega
  · intro h8
    rcases Nat.lt_or_ge (Lib.bitLen n) 8 with e | e
    · have h3 : 2 ^ Lib.bitLen n ≤ 2 ^ 7 := Nat.pow_le_pow_right (by omega) (by omega)
      omega
    · omega
theorem bl_high {n : Nat} (h : n < 18446744073709551616) : bl (n : Int) ≤ (40 : Int) ↔ n < 1099511627776 := by
  unfold bl
  rw [Int.toNat_natCast]
  have h1 := lt_bl n h
  constructor
  · intro h8
    have h3 : 2 ^ Lib.bitLen n ≤ 2 ^ 40 := Nat.pow_le_pow_right (by omega) (by omega)
    omega
  · intro h8
    rcases Nat.lt_or_ge 40 (Lib.bitLen n) with e | e
    · rcases Nat.eq_zero_or_pos n with rfl | h0
      · have : Lib.bitLen 0 = 0 := by decide
        omega
      · have h2 := le_bl n h h0
        have h3 : 2 ^ 40 ≤ 2 ^ (Lib.bitLen n - 1) := Nat.pow_le_pow_right (by omega) (by omega)
        omega
    · omega

set_option maxHeartbeats 800000 in
theorem ofKey_any (n : Nat) (w : World) (hn : n < 18446744073709551616) :
    Calls Tryz.prog 43 #[.int .u64 (n : Int)] w fun e w' => e = .returned (.bool (okB n)) ∧ Below w.heap.size w w' := by
  have h1 := bl_low hn
  have h2 := bl_high hn
  have hL := len64_any (n : Int) (by omega)
  obtain ⟨k, hk⟩ : ∃ k, k = bl (n : Int) := ⟨_, rfl⟩
  rw [← hk] at h1 h2
  have HL : Hid (∀ wx : World, Calls Tryz.prog 42 #[.int .u64 (n : Int)] wx fun e w' => e = .returned (.int .i64 k) ∧ w' = wx) := fun wx => by rw [hk]; exact hL wx
  clear hL hk
  by_cases c1 : (8 : Int) ≤ k
  · by_cases c2 : k ≤ (40 : Int)
    · have n1 := h1.1 c1
      have n2 := h2.1 c2
      have HO : Hid (okB n = prB n) := by show _ = _; unfold okB; simp [n1, n2]
      clear h1 h2
      go_enter Tryz.func43, Tryz.ntmps43
      go_wp2_with fail
      refine (HL.out _).mono ?_
      rintro e w1 ⟨rfl, rfl⟩
      clear HL
      go_wp2_with fail
      refine (least_any n _ n2).mono ?_
      rintro e w2 ⟨d, rfl, hd, hle, hb⟩
      have hpr := hd.isPr (by omega)
      by_cases e : d = n
      · subst e
        have HB : Hid (okB d = true) := by show _ = _; rw [HO.out]; exact prB_of (hpr.1 rfl)
        clear hpr hd HO
        go_wp2
        go_ret
        exact ⟨by rw [HB.out]; simp, hb⟩
      · have HB : Hid (okB n = false) := by show _ = _; rw [HO.out]; exact prB_not (fun h => e (hpr.2 h))
        have hne : ((d : Int) == (n : Int)) = false := by simp; omega
        clear hpr hd e HO
        go_wp2
        go_ret
        exact ⟨by rw [HB.out]; try rfl, hb⟩
    · have HO : Hid (okB n = false) := by
        show _ = _
        have : ¬ n < 1099511627776 := fun h => c2 (h2.2 h)
        unfold okB; simp [this]
      have d2 : decide (k ≤ (40 : Int)) = false := decide_eq_false c2
      clear h1 h2
      go_enter Tryz.func43, Tryz.ntmps43
      go_wp2_with fail
      refine (HL.out _).mono ?_
      rintro e w1 ⟨rfl, rfl⟩
      clear HL
      go_wp2
      go_ret
      exact ⟨by rw [HO.out]; try rfl, Below.refl _ _⟩
  · have HO : Hid (okB n = false) := by
      show _ = _
      have : ¬ 128 ≤ n := fun h => c1 (h1.2 h)
      unfold okB; simp [this]
    have d1 : decide ((8 : Int) ≤ k) = false := decide_eq_false c1
    clear h1 h2
    go_enter Tryz.func43, Tryz.ntmps43
    go_wp2_with fail
    refine (HL.out _).mono ?_
    rintro e w1 ⟨rfl, rfl⟩
    clear HL
    go_wp2
    go_ret
    exact ⟨by rw [HO.out]; try rfl, Below.refl _ _⟩
/-- A product of two small numbers. -/
theorem mul_small (X Y : Nat) (hX : 0 < X ∧ X < 1099511627776) (hY : 0 < Y ∧ Y < 1099511627776) (a b : Option Addr) (la ca lb cb : Nat) (w : World) (h : Nums w a la ca (ofZ (X : Int))) (h' : Nums w b lb cb (ofZ (Y : Int))) :
    Calls Tryz.prog 15 #[.slice a la ca, .slice b lb cb] w fun e w' => ∃ a' n c ls err, e = .returned (.tuple #[.slice a' n c, .int .i64 err]) ∧ Nums w' a' n c ls ∧ rightB ls = true ∧
      val 18446744073709551616 ls = ((X * Y : Nat) : Int) ∧ (a' = none → c = 0) ∧ Below w.heap.size w w' := by
  refine (mul_any _ _ _ _ _ _ _ _ _ h h').mono ?_
  rintro e w' ⟨a', n, c, ls, err, rfl, hL, hR, -, hb⟩
  obtain ⟨-, xr, xv⟩ := ofZ_limb (x := (X : Int)) (by omega)
  obtain ⟨-, yr, yv⟩ := ofZ_limb (x := (Y : Int)) (by omega)
  have hr := hR.got xr yr
  rw [xv, yv, ← Int.natCast_mul] at hr
  have hp : 0 < X * Y := Nat.mul_pos hX.1 hY.1
  have hq : X * Y < 1099511627776 * 1099511627776 := Nat.mul_lt_mul_of_lt_of_lt hX.2 hY.2
  have hbig : ((X * Y : Nat) : Int) < 18446744073709551616 ^ 64 := by
    have e2 : (18446744073709551616 : Int) ^ 2 ≤ 18446744073709551616 ^ 64 := by decide
    have e1 : (18446744073709551616 : Int) ^ 2 = 340282366920938463463374607431768211456 := by decide
    omega
  obtain ⟨rfl, hd, ht, hl, hv⟩ : err = 0 ∧ Digs 18446744073709551616 ls ∧ Top ls ∧ ls.length ≤ 64 ∧ val 18446744073709551616 ls = ((X * Y : Nat) : Int) := by
    rcases hr with h | ⟨_, _, zs, hd, ht, hv, hl⟩
    · exact h
    · exfalso
      have := len_le (B := 18446744073709551616) (by decide) hd ht (k := 64) (by rw [hv]; exact hbig)
      omega
  refine ⟨a', n, c, ls, 0, rfl, hL, right_mk hl ht, hv, ?_, hb⟩
  intro e
  have : ls ≠ [] := by rintro rfl; simp [val] at hv; omega
  have hn : 0 < n := by rw [← hL.hlen]; exact List.length_pos_iff.2 this
  obtain ⟨_, _, h0, _⟩ := hL.cells hn
  rw [e] at h0
  cases h0

set_option maxRecDepth 20000 in
set_option maxHeartbeats 6400000 in
theorem prApart_any (P Q : Nat) (w : World) (hP : 128 ≤ P ∧ P < 1099511627776) (hQ : 128 ≤ Q ∧ Q < 1099511627776) :
    Calls Tryz.prog 44 #[.agg #[.int .u64 (P : Int), .int .u64 (Q : Int)]] w fun e w' => e = .returned (.bool (apB P Q)) ∧ Below w.heap.size w w' := by
  have hx := (Below.refl w.heap.size w).alloc (Nat.le_refl _) (.cells #[.int .u64 (P : Int), .int .u64 (Q : Int)] 24)
  have q0 : (w.alloc (.cells #[.int .u64 (P : Int), .int .u64 (Q : Int)] 24)).cell? ⟨w.heap.size, 0, none⟩ = some (.int .u64 (P : Int)) := by simp
  have q1 : (w.alloc (.cells #[.int .u64 (P : Int), .int .u64 (Q : Int)] 24)).cell? ⟨w.heap.size, 1, none⟩ = some (.int .u64 (Q : Int)) := by simp
  have lP : P < 18446744073709551616 := by omega
  have lQ : Q < 18446744073709551616 := by omega
  go_enter Tryz.func44, Tryz.ntmps44
  go_upto_region 1 with fail
  generalize w.alloc (.cells #[.int .u64 (P : Int), .int .u64 (Q : Int)] 24) = V3 at *
  have HOf : Hid (∀ (n : Nat) (wx : World), n < 18446744073709551616 → Below V3.heap.size V3 wx → Calls Tryz.prog 16 #[.int .u64 (n : Int)] wx fun e w' => ∃ pa pn pc, e = .returned (.slice pa pn pc) ∧ (Nums w' pa pn pc (ofZ (n : Int)) ∧ Below wx.heap.size wx w' ∧ Below V3.heap.size V3 w') ∧ w'.cell? ⟨w.heap.size, 0, none⟩ = some (.int .u64 (P : Int)) ∧ w'.cell? ⟨w.heap.size, 1, none⟩ = some (.int .u64 (Q : Int))) := by
    intro n wx hn hbx
    refine (of_any (n : Int) wx (by omega)).mono ?_
    rintro e w' ⟨pa, pn, pc, rfl, hA, hb⟩
    have hb' := hbx.trans (hb.mono hbx.size)
    exact ⟨pa, pn, pc, rfl, ⟨hA, hb, hb'⟩, bkeep hb' q0 rfl, bkeep hb' q1 rfl⟩
  have HMu : Hid (∀ (a b : Option Addr) (la ca lb cb : Nat) (wx : World), Nums wx a la ca (ofZ (P : Int)) → Nums wx b lb cb (ofZ (Q : Int)) → Below V3.heap.size V3 wx → Calls Tryz.prog 15 #[.slice a la ca, .slice b lb cb] wx fun e w' => ∃ a' n c ls err, e = .returned (.tuple #[.slice a' n c, .int .i64 err]) ∧ (Nums w' a' n c ls ∧ rightB ls = true ∧ val 18446744073709551616 ls = ((P * Q : Nat) : Int) ∧ (a' = none → c = 0) ∧ Below V3.heap.size V3 w')) := by
    intro a b la ca lb cb wx h1 h2 hbx
    refine (mul_small P Q (by omega) (by omega) a b la ca lb cb wx h1 h2).mono ?_
    rintro e w' ⟨a', n, c, ls, err, rfl, k1, k2, k3, k4, k5⟩
    exact ⟨a', n, c, ls, err, rfl, k1, k2, k3, k4, hbx.trans (k5.mono hbx.size)⟩
  go_cut [3, 4] (fun sv ev wx => ∃ a n c ls err, sv = .slice a n c ∧ ev = .int .i64 err ∧ Nums wx a n c ls ∧ rightB ls = true ∧ Hid (val 18446744073709551616 ls = ((P * Q : Nat) : Int)) ∧ (a = none → c = 0) ∧ Below V3.heap.size V3 wx)
  case first =>
    clear hx
    go_region_with (first
      | (go_at_call 16; refine (HOf.out _ _ ?_ ?_).mono ?_; (assumption); (exact ⟨hA.2.2.os, hA.2.2.tape, hA.2.2.output, hA.2.2.size, hA.2.2.block⟩); rintro e wB ⟨qa, qn, qc, rfl, hB, p2, p3⟩; have hA2 := hA.1.below (w' := wB) ⟨hB.2.1.os, hB.2.1.tape, hB.2.1.output, hB.2.1.size, hB.2.1.block⟩)
      | (go_at_call 16; refine (HOf.out _ _ ?_ ?_).mono ?_; (assumption); (exact ⟨rfl, rfl, rfl, Nat.le_refl _, fun _ _ => rfl⟩); rintro e wA ⟨pa, pn, pc, rfl, hA, p0, p1⟩)
      | (go_at_call 15; refine (HMu.out _ _ _ _ _ _ _ ?_ ?_ ?_).mono ?_; (first | exact hA2.alike (fun _ => rfl) | exact hB.1.alike (fun _ => rfl)); (first | exact hB.1.alike (fun _ => rfl) | exact hA2.alike (fun _ => rfl)); (exact ⟨hB.2.2.os, hB.2.2.tape, hB.2.2.output, hB.2.2.size, hB.2.2.block⟩); rintro e wM ⟨ma, mn, mc, ls, err, rfl, hM⟩))
    all_goals
      clear HOf HMu hA hB hA2
      go_wp2_with fail
      go_meet
      case rel => exact ⟨ma, mn, mc, ls, err, rfl, rfl, hM.1, hM.2.1, hM.2.2.1, hM.2.2.2.1, ⟨hM.2.2.2.2.os, hM.2.2.2.2.tape, hM.2.2.2.2.output, hM.2.2.2.2.size, hM.2.2.2.2.block⟩⟩
  case rest =>
    obtain ⟨na, nn, nc, ns, ne, rfl, rfl, hN, rN, HN, zN, hb3⟩ := hcut
    replace q0 := bkeep hb3 q0 rfl
    replace q1 := bkeep hb3 q1 rfl
    have hx4 := hx.trans (hb3.mono hx.size)
    have hPi : 128 ≤ (P : Int) := by omega
    have hQi : 128 ≤ (Q : Int) := by omega
    have hPj : (P : Int) < 1099511627776 := by omega
    have hQj : (Q : Int) < 1099511627776 := by omega
    have wP : IntKind.u64.wrap ((P : Int) - 1) = ((P - 1 : Nat) : Int) := by rw [wrap64]; omega
    have wQ : IntKind.u64.wrap ((Q : Int) - 1) = ((Q - 1 : Nat) : Int) := by rw [wrap64]; omega
    have HwP : Hid (0 ≤ IntKind.u64.wrap ((P : Int) - 1) ∧ IntKind.u64.wrap ((P : Int) - 1) < 18446744073709551616) := by show _ ∧ _; rw [wP]; omega
    have HwQ : Hid (0 ≤ IntKind.u64.wrap ((Q : Int) - 1) ∧ IntKind.u64.wrap ((Q : Int) - 1) < 18446744073709551616) := by show _ ∧ _; rw [wQ]; omega
    clear HOf HMu hx hb3
    obtain ⟨V4, hV4⟩ : ∃ V4, V4 = wc := ⟨_, rfl⟩
    subst hV4
    have HOf : Hid (∀ (n : Int) (wx : World), 0 ≤ n ∧ n < 18446744073709551616 → Below V4.heap.size V4 wx → Calls Tryz.prog 16 #[.int .u64 n] wx fun e w' => ∃ pa pn pc, e = .returned (.slice pa pn pc) ∧ (Nums w' pa pn pc (ofZ n) ∧ Below wx.heap.size wx w' ∧ Below V4.heap.size V4 w') ∧ w'.cell? ⟨w.heap.size, 0, none⟩ = some (.int .u64 (P : Int)) ∧ w'.cell? ⟨w.heap.size, 1, none⟩ = some (.int .u64 (Q : Int))) := by
      intro n wx hn hbx
      refine (of_any n wx hn).mono ?_
      rintro e w' ⟨pa, pn, pc, rfl, hA, hb⟩
      have hb' := hbx.trans (hb.mono hbx.size)
      exact ⟨pa, pn, pc, rfl, ⟨hA, hb, hb'⟩, bkeep hb' q0 rfl, bkeep hb' q1 rfl⟩
    have HMu : Hid (∀ (a b : Option Addr) (la ca lb cb : Nat) (wx : World), Nums wx a la ca (ofZ (IntKind.u64.wrap ((P : Int) - 1))) → Nums wx b lb cb (ofZ (IntKind.u64.wrap ((Q : Int) - 1))) → Below V4.heap.size V4 wx → Calls Tryz.prog 15 #[.slice a la ca, .slice b lb cb] wx fun e w' => ∃ a' n c ls err, e = .returned (.tuple #[.slice a' n c, .int .i64 err]) ∧ (Nums w' a' n c ls ∧ rightB ls = true ∧ val 18446744073709551616 ls = (((P - 1) * (Q - 1) : Nat) : Int) ∧ (a' = none → c = 0) ∧ Below V4.heap.size V4 w')) := by
      intro a b la ca lb cb wx h1 h2 hbx
      rw [wP] at h1
      rw [wQ] at h2
      refine (mul_small (P - 1) (Q - 1) (by omega) (by omega) a b la ca lb cb wx h1 h2).mono ?_
      rintro e w' ⟨a', n, c, ls, err, rfl, k1, k2, k3, k4, k5⟩
      exact ⟨a', n, c, ls, err, rfl, k1, k2, k3, k4, hbx.trans (k5.mono hbx.size)⟩
    clear wP wQ hPi hPj hQi hQj
    go_upto_region 2 with fail
    go_cut [5, 6] (fun sv ev wx => ∃ a n c ls err, sv = .slice a n c ∧ ev = .int .i64 err ∧ Nums wx a n c ls ∧ rightB ls = true ∧ Hid (val 18446744073709551616 ls = (((P - 1) * (Q - 1) : Nat) : Int)) ∧ (a = none → c = 0) ∧ Below V4.heap.size V4 wx)
    case first =>
      clear hx4 hN rN HN zN
      go_region_with (first
        | (go_at_call 16; refine (HOf.out _ _ ?_ ?_).mono ?_; (first | exact HwP.out | exact HwQ.out); (exact ⟨hA.2.2.os, hA.2.2.tape, hA.2.2.output, hA.2.2.size, hA.2.2.block⟩); rintro e wB ⟨qa, qn, qc, rfl, hB, p2, p3⟩; have hA2 := hA.1.below (w' := wB) ⟨hB.2.1.os, hB.2.1.tape, hB.2.1.output, hB.2.1.size, hB.2.1.block⟩)
        | (go_at_call 16; refine (HOf.out _ _ ?_ ?_).mono ?_; (first | exact HwP.out | exact HwQ.out); (exact ⟨rfl, rfl, rfl, Nat.le_refl _, fun _ _ => rfl⟩); rintro e wA ⟨pa, pn, pc, rfl, hA, p0, p1⟩)
        | (go_at_call 15; refine (HMu.out _ _ _ _ _ _ _ ?_ ?_ ?_).mono ?_; (first | exact hA2.alike (fun _ => rfl) | exact hB.1.alike (fun _ => rfl)); (first | exact hB.1.alike (fun _ => rfl) | exact hA2.alike (fun _ => rfl)); (exact ⟨hB.2.2.os, hB.2.2.tape, hB.2.2.output, hB.2.2.size, hB.2.2.block⟩); rintro e wM ⟨ma, mn, mc, ls, err, rfl, hM⟩))
      all_goals
        clear HOf HMu hA hB hA2
        go_wp2_with fail
        go_meet
        case rel => exact ⟨ma, mn, mc, ls, err, rfl, rfl, hM.1, hM.2.1, hM.2.2.1, hM.2.2.2.1, ⟨hM.2.2.2.2.os, hM.2.2.2.2.tape, hM.2.2.2.2.output, hM.2.2.2.2.size, hM.2.2.2.2.block⟩⟩
    case rest =>
      obtain ⟨fa, fn, fc, fs, fe, rfl, rfl, hF, rF, HF, zF, hb4⟩ := hcut
      have hN5 := hN.below hb4
      have hx5 := hx4.trans (hb4.mono hx4.size)
      clear HOf HMu hN hx4 hb4 q0 q1
      go_wp2_with fail
      refine (gcd_any _ _ _ _ _ _ _ _ _ hN5 hF).mono ?_
      rintro e w6 ⟨ga, gn, gc, gs, ge, rfl, hG, hR, hb6⟩
      have hx6 := hx5.trans (hb6.mono hx5.size)
      have HK : Hid (cmpN gs (ofZ 1) = 0 ↔ apB P Q = true) := by
        show _ ↔ _
        unfold ResGcd at hR
        rw [rN, rF, if_pos (by rfl), HN.out, HF.out] at hR
        have e1 : rightB (ofZ 1) = true := by decide
        have e2 : val 18446744073709551616 (ofZ 1) = 1 := by decide
        unfold cmpN
        rw [hR.2.2.1, e1, e2, hR.2.2.2]
        unfold gz apB
        rw [Int.toNat_natCast, Int.toNat_natCast, decide_eq_true_iff]
        simp only [Bool.and_self, if_true]
        unfold cmpZ
        constructor
        · intro h
          split at h
          · cases h
          · split at h
            · cases h
            · omega
        · intro h
          rw [h]
          simp
      clear hN5 hF rN rF HN HF zN zF hx5 hb6 hR
      go_wp2_with fail
      refine (of_any 1 _ (by omega)).mono ?_
      rintro e w7 ⟨oa, on, oc, rfl, hO, hb7⟩
      have hG7 := hG.below hb7
      have hx7 := hx6.trans (hb7.mono hx6.size)
      clear hG hx6 hb7
      go_wp2_with fail
      have hC := cmp_any _ _ _ _ _ _ _ _ _ hG7 hO
      obtain ⟨z, hz⟩ : ∃ z, z = cmpN gs (ofZ 1) := ⟨_, rfl⟩
      rw [← hz] at hC
      have HZ : Hid (z = 0 ↔ apB P Q = true) := by show _ ↔ _; rw [hz]; exact HK.out
      clear hz HK
      refine hC.mono ?_
      rintro e w8 ⟨rfl, hb8⟩
      have hx8 := hx7.trans (hb8.mono hx7.size)
      have HB : Hid ((z == 0) = apB P Q) := by
        show _ = _
        by_cases hz0 : z = 0
        · rw [HZ.out.1 hz0, hz0]; rfl
        · have : ¬ apB P Q = true := fun h => hz0 (HZ.out.2 h)
          rw [Bool.eq_false_iff.2 this]
          simp [hz0]
      clear HZ hC hG7 hO hx7 hb8
      go_wp2
      go_ret
      exact ⟨ret_bool HB.out, hx8⟩
theorem key_of {P Q : Nat} (h1 : okB P = true) (h2 : okB Q = true) (h3 : P ≠ Q) (h4 : blN P = blN Q) (h5 : apB P Q = true) : KeyOk P Q := by
  obtain ⟨a, b, c⟩ := (okB_iff P).1 h1
  obtain ⟨a', b', c'⟩ := (okB_iff Q).1 h2
  exact ⟨⟨a, a'⟩, ⟨b, b'⟩, c, c', h3, h4, decide_eq_true_iff.1 h5⟩
theorem KeyOk.parts {P Q : Nat} (h : KeyOk P Q) : okB P = true ∧ okB Q = true ∧ P ≠ Q ∧ blN P = blN Q ∧ apB P Q = true := by
  obtain ⟨⟨a, a'⟩, ⟨b, b'⟩, c, c', h3, h4, h5⟩ := h
  exact ⟨(okB_iff P).2 ⟨a, b, c⟩, (okB_iff Q).2 ⟨a', b', c'⟩, h3, h4, decide_eq_true h5⟩

set_option maxRecDepth 20000 in
set_option maxHeartbeats 6400000 in
theorem check_any (P Q : Nat) (w : World) (hP : P < 18446744073709551616) (hQ : Q < 18446744073709551616) :
    Calls Tryz.prog 13 #[.agg #[.int .u64 (P : Int), .int .u64 (Q : Int)]] w fun e w' => CheckT P Q e ∧ Below w.heap.size w w' := by
  have hV := (Below.refl w.heap.size w).alloc (Nat.le_refl _) (.cells #[.int .u64 (P : Int), .int .u64 (Q : Int)] 24)
  have c0 : (w.alloc (.cells #[.int .u64 (P : Int), .int .u64 (Q : Int)] 24)).cell? ⟨w.heap.size, 0, none⟩ = some (.int .u64 (P : Int)) := by simp
  have c1 : (w.alloc (.cells #[.int .u64 (P : Int), .int .u64 (Q : Int)] 24)).cell? ⟨w.heap.size, 1, none⟩ = some (.int .u64 (Q : Int)) := by simp
  go_enter Tryz.func13, Tryz.ntmps13
  go_upto_region 1 with fail
  generalize w.alloc (.cells #[.int .u64 (P : Int), .int .u64 (Q : Int)] 24) = V at *
  have hne := SW.inhabited V
  have q0 := fun x : SW V => x.cell c0
  have q1 := fun x : SW V => x.cell c1
  have HL : Hid (∀ n : Nat, n < 18446744073709551616 → ∀ x : SW V, Calls Tryz.prog 42 #[.int .u64 (n : Int)] x.w fun e w' => e = .returned (.int .i64 (blN n : Int)) ∧ ∃ y : SW V, w' = y.w) := fun n h x => (len64_any (n : Int) (by omega) x.w).mono (by rintro e w' ⟨rfl, rfl⟩; exact ⟨by simp [bl, blN], x, rfl⟩)
  have HO : Hid (∀ n : Nat, n < 18446744073709551616 → ∀ x : SW V, Calls Tryz.prog 43 #[.int .u64 (n : Int)] x.w fun e w' => e = .returned (.bool (okB n)) ∧ ∃ y : SW V, w' = y.w) := fun n h x => Calls.inClass (ofKey_any n _ h)
  have HNo : Hid (¬ KeyOk P Q → CheckT P Q (.returned (.int .i64 9))) := fun h => .inr ⟨h, rfl⟩
  have HV : Hid (∀ x : SW V, Below w.heap.size w x.w) := fun x => hV.trans (x.below.mono hV.size)
  clear hV
  by_cases g0 : P = Q
  · have HR : Hid (CheckT P Q (.returned (.int .i64 9))) := HNo.out (fun h => h.parts.2.2.1 g0)
    have e0 : ((P : Int) == (Q : Int)) = true := by simp; omega
    clear HL HO HNo g0
    refine wp_region_class V (by kernel_rfl) (by kernel_rfl) (Below.refl _ _) ?_
    repeat (go_big_quiet_step (fail))
    refine wpQuiet_nil ?_
    intro _ hw'
    obtain ⟨x, hw''⟩ := hw'
    subst hw''
    clear q0 q1
    go_wp2_with fail
    go_ret
    exact ⟨HR.out, HV.out x⟩
  have e0 : ((P : Int) == (Q : Int)) = false := by simp; omega
  by_cases g1 : ¬ blN P = blN Q
  · have HR : Hid (CheckT P Q (.returned (.int .i64 9))) := HNo.out (fun h => g1 h.parts.2.2.2.1)
    have e1 : ((blN P : Int) != (blN Q : Int)) = true := by simp; omega
    clear HO HNo g0 g1
    refine wp_region_class V (by kernel_rfl) (by kernel_rfl) (Below.refl _ _) ?_
    repeat (go_big_quiet_step (first | (go_at_call 42; exact HL.out _ (by assumption) _)))
    refine wpQuiet_nil ?_
    intro _ hw'
    obtain ⟨x, hw''⟩ := hw'
    subst hw''
    clear q0 q1
    go_wp2_with fail
    go_ret
    exact ⟨HR.out, HV.out x⟩
  have e1 : ((blN P : Int) != (blN Q : Int)) = false := by simp; omega
  cases g2 : okB P with
  | false =>
    have HR : Hid (CheckT P Q (.returned (.int .i64 9))) := HNo.out (fun h => by rw [h.parts.1] at g2; cases g2)
    clear HNo g0 g1
    refine wp_region_class V (by kernel_rfl) (by kernel_rfl) (Below.refl _ _) ?_
    repeat (go_big_quiet_step (first | (go_at_call 42; exact HL.out _ (by assumption) _) | (go_at_call 43; exact HO.out _ (by assumption) _)))
    refine wpQuiet_nil ?_
    intro _ hw'
    obtain ⟨x, hw''⟩ := hw'
    subst hw''
    clear q0 q1
    go_wp2_with fail
    go_ret
    exact ⟨HR.out, HV.out x⟩
  | true =>
    cases g3 : okB Q with
    | false =>
      have HR : Hid (CheckT P Q (.returned (.int .i64 9))) := HNo.out (fun h => by rw [h.parts.2.1] at g3; cases g3)
      clear HNo g0 g1
      refine wp_region_class V (by kernel_rfl) (by kernel_rfl) (Below.refl _ _) ?_
      repeat (go_big_quiet_step (first | (go_at_call 42; exact HL.out _ (by assumption) _) | (go_at_call 43; exact HO.out _ (by assumption) _)))
      refine wpQuiet_nil ?_
      intro _ hw'
      obtain ⟨x, hw''⟩ := hw'
      subst hw''
      clear q0 q1
      go_wp2_with fail
      go_ret
      exact ⟨HR.out, HV.out x⟩
    | true =>
      have kP := (okB_iff P).1 g2
      have kQ := (okB_iff Q).1 g3
      have HA : Hid (∀ x : SW V, Calls Tryz.prog 44 #[.agg #[.int .u64 (P : Int), .int .u64 (Q : Int)]] x.w fun e w' => e = .returned (.bool (apB P Q)) ∧ ∃ y : SW V, w' = y.w) := fun x => Calls.inClass (prApart_any P Q _ ⟨kP.1, kP.2.1⟩ ⟨kQ.1, kQ.2.1⟩)
      cases g4 : apB P Q with
      | false =>
        have HR : Hid (CheckT P Q (.returned (.int .i64 9))) := HNo.out (fun h => by rw [h.parts.2.2.2.2] at g4; cases g4)
        clear HNo g0 g1 kP kQ
        refine wp_region_class V (by kernel_rfl) (by kernel_rfl) (Below.refl _ _) ?_
        repeat (go_big_quiet_step (first | (go_at_call 42; exact HL.out _ (by assumption) _) | (go_at_call 43; exact HO.out _ (by assumption) _) | (go_at_call 44; exact HA.out _)))
        refine wpQuiet_nil ?_
        intro _ hw'
        obtain ⟨x, hw''⟩ := hw'
        subst hw''
        clear q0 q1
        go_wp2_with fail
        go_ret
        exact ⟨HR.out, HV.out x⟩
      | true =>
        have HR : Hid (CheckT P Q (.returned (.int .i64 0))) := .inl ⟨key_of g2 g3 g0 (by omega) g4, rfl⟩
        clear HNo g0 g1 kP kQ
        refine wp_region_class V (by kernel_rfl) (by kernel_rfl) (Below.refl _ _) ?_
        repeat (go_big_quiet_step (first | (go_at_call 42; exact HL.out _ (by assumption) _) | (go_at_call 43; exact HO.out _ (by assumption) _) | (go_at_call 44; exact HA.out _)))
        refine wpQuiet_nil ?_
        intro _ hw'
        obtain ⟨x, hw''⟩ := hw'
        subst hw''
        clear q0 q1
        go_wp2_with fail
        go_ret
        exact ⟨HR.out, HV.out x⟩
end Go.Proofs.YtnbdbahfekneoaaGreat

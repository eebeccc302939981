/-
  The contract of package paillier's Public.
-/
import Derived.Test.YtambpcgdaogojabGreatQA
import Derived.Test.YtambpcgdaogojabGreatP6A
import Derived.Test.YtambpcgdaogojabGreatPrB
namespace Go.Proofs.YtambpcgdaogojabGreat
open Go.RowKit

set_option maxRecDepth 20000 in
set_option maxHeartbeats 3200000 in
theorem pub_ok6 : PubOk := by
  intro P Q w p1 q1
  have hV := (Below.refl w.heap.size w).alloc (Nat.le_refl _) (.cells #[.int .u64 (P : Int), .int .u64 (Q : Int)] 24)
  have q0 : (w.alloc (.cells #[.int .u64 (P : Int), .int .u64 (Q : Int)] 24)).cell? ⟨w.heap.size, 0, none⟩ = some (.int .u64 (P : Int)) := by simp
  have q1' : (w.alloc (.cells #[.int .u64 (P : Int), .int .u64 (Q : Int)] 24)).cell? ⟨w.heap.size, 1, none⟩ = some (.int .u64 (Q : Int)) := by simp
  go_enter Tryz.func4, Tryz.ntmps4
  go_wp2_with fail
  generalize w.alloc (.cells #[.int .u64 (P : Int), .int .u64 (Q : Int)] 24) = V at *
  refine (check_any P Q _ p1 q1).mono ?_
  rintro e V3 ⟨hC, hb⟩
  have hx := hV.trans (hb.mono hV.size)
  replace q0 := bkeep hb q0 rfl
  replace q1' := bkeep hb q1' rfl
  clear hV hb
  rcases hC with ⟨hK, rfl⟩ | ⟨hK, rfl⟩
  · obtain ⟨_, _, _, _, hn1, hn2, _⟩ := hK.facts
    have HK : Hid (KeyOk P Q) := hK
    clear hK
    have HOf : Hid (∀ (n : Nat) (wx : World), n < 18446744073709551616 → Below V3.heap.size V3 wx → Calls Tryz.prog 15 #[.int .u64 (n : Int)] wx fun e w' => ∃ pa pn pc, e = .returned (.slice pa pn pc) ∧ (Nums w' pa pn pc (ofZ (n : Int)) ∧ Below wx.heap.size wx w' ∧ Below V3.heap.size V3 w') ∧ w'.cell? ⟨w.heap.size, 0, none⟩ = some (.int .u64 (P : Int)) ∧ w'.cell? ⟨w.heap.size, 1, none⟩ = some (.int .u64 (Q : Int))) := by
      intro n wx hn hbx
      refine (of_any (n : Int) wx (by omega)).mono ?_
      rintro e w' ⟨pa, pn, pc, rfl, hA, hb⟩
      have hb' := hbx.trans (hb.mono hbx.size)
      exact ⟨pa, pn, pc, rfl, ⟨hA, hb, hb'⟩, bkeep hb' q0 rfl, bkeep hb' q1' rfl⟩
    have HMu : Hid (∀ (a b : Option Addr) (la ca lb cb : Nat) (wx : World), Nums wx a la ca (ofZ (P : Int)) → Nums wx b lb cb (ofZ (Q : Int)) → Below V3.heap.size V3 wx → Calls Tryz.prog 13 #[.func (.func 14) #[] #[], .slice a la ca, .slice b lb cb] wx fun e w' => ∃ a' n c ls, e = .returned (.slice a' n c) ∧ (Nums w' a' n c ls ∧ IsN ls (P * Q) ∧ Below V3.heap.size V3 w')) := by
      intro a b la ca lb cb wx h1 h2 hbx
      refine (smul_any _ _ _ _ _ _ _ _ _ _ _ h1 h2 (IsN.of p1) (IsN.of q1) (by
        have e2 : (18446744073709551616 : Int) ^ 2 ≤ 18446744073709551616 ^ 64 := by decide
        have e1 : (18446744073709551616 : Int) ^ 2 = 340282366920938463463374607431768211456 := by decide
        omega)).mono ?_
      rintro e w' ⟨a', n, c, ls, rfl, hL, r1, k5⟩
      exact ⟨a', n, c, ls, rfl, hL, r1, hbx.trans (k5.mono hbx.size)⟩
    clear hn1 hn2
    go_upto_region 4 with fail
    go_cut [2, 3] (fun sv ev wx => ∃ a n c ls, sv = .slice a n c ∧ ev = .int .i64 0 ∧ Nums wx a n c ls ∧ IsN ls (P * Q) ∧ Below V3.heap.size V3 wx)
    case first =>
      clear HK hx
      go_region_with (first
        | (go_at_call 15; refine (HOf.out _ _ ?_ ?_).mono ?_; (assumption); (exact ⟨hA.2.2.os, hA.2.2.tape, hA.2.2.output, hA.2.2.size, hA.2.2.block⟩); rintro e wB ⟨qa, qn, qc, rfl, hB, p2, p3⟩; have hA2 := hA.1.below (w' := wB) ⟨hB.2.1.os, hB.2.1.tape, hB.2.1.output, hB.2.1.size, hB.2.1.block⟩)
        | (go_at_call 15; refine (HOf.out _ _ ?_ ?_).mono ?_; (assumption); (exact ⟨rfl, rfl, rfl, Nat.le_refl _, fun _ _ => rfl⟩); rintro e wA ⟨pa, pn, pc, rfl, hA, p0, p1⟩)
        | (go_at_call 13; refine (HMu.out _ _ _ _ _ _ _ ?_ ?_ ?_).mono ?_; (first | exact hA2.alike (fun _ => rfl) | exact hB.1.alike (fun _ => rfl)); (first | exact hB.1.alike (fun _ => rfl) | exact hA2.alike (fun _ => rfl)); (exact ⟨hB.2.2.os, hB.2.2.tape, hB.2.2.output, hB.2.2.size, hB.2.2.block⟩); rintro e wM ⟨ma, mn, mc, ls, rfl, hM⟩))
      all_goals
        clear HOf HMu hA hB hA2
        go_wp2_with fail
        go_meet
        case rel => exact ⟨ma, mn, mc, ls, rfl, rfl, hM.1, hM.2.1, ⟨hM.2.2.os, hM.2.2.tape, hM.2.2.output, hM.2.2.size, hM.2.2.block⟩⟩
    case rest =>
      obtain ⟨na, nn, nc, ns, rfl, rfl, hN, hI, hb3⟩ := hcut
      have hx4 := hx.trans (hb3.mono hx.size)
      have HR : Hid (PubT P Q w (.returned (.tuple #[.slice na nn nc, .int .i64 0])) wc) := ⟨na, nn, nc, ns, 0, rfl, hN, .inl ⟨HK.out, hI, rfl⟩, hx4⟩
      clear HOf HMu hx hb3 HK hN hI q0 q1'
      go_wp2
      go_ret2
      exact HR.out
  · have HR : Hid (PubT P Q w (.returned (.tuple #[.slice none 0 0, .int .i64 9])) V3) := ⟨none, 0, 0, [], 9, rfl, Nums.nil _, .inr ⟨hK, rfl, rfl⟩, hx⟩
    clear hK
    go_wp2
    go_ret2
    exact HR.out
end Go.Proofs.YtambpcgdaogojabGreat

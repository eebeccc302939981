/-
  The program's sets: Right.
-/
import Derived.Test.YtfgccldkbolkoaaX14A
import Derived.BigQuiet
namespace Go.Proofs.Ytfgccldkbolkoaa
open Go.RowKit

theorem right_no (N : Int) (ws : List Int) (h : isBd N = false) : ¬ RightS N ws := fun e => by
  have h1 := e.lo
  have h2 := e.hi
  have := isBd_false h
  omega
set_option maxRecDepth 20000 in
set_option maxHeartbeats 6400000 in
theorem x14right_any (N : Int) (a : Option Addr) (l c : Nat) (ws : List Int) (w : World) (hN : -9223372036854775808 ≤ N ∧ N < 9223372036854775808) (h : Nums w a l c ws) :
    Calls Try.prog 30 #[.agg #[.int .i64 N, .slice a l c]] w fun e w' => ∃ b, e = .returned (.bool b) ∧ (b = true ↔ RightS N ws) ∧ Below w.heap.size w w' := by
  have hb := balloc w (.cells #[.int .i64 N, .slice a l c] 25)
  obtain ⟨V, hVe⟩ : ∃ V, V = w.alloc (.cells #[.int .i64 N, .slice a l c] 25) := ⟨_, rfl⟩
  have HVe : Hid (V = w.alloc (.cells #[.int .i64 N, .slice a l c] 25)) := hVe
  obtain ⟨G, hG⟩ : ∃ G, G = w.heap.size := ⟨_, rfl⟩
  have HG : Hid (G = w.heap.size) := hG
  have x0 : V.cell? ⟨G, 0, none⟩ = some (.int .i64 N) := by rw [hVe, hG]; simp
  have x1 : V.cell? ⟨G, 1, none⟩ = some (.slice a l c) := by rw [hVe, hG]; simp
  rw [← hVe] at hb
  have HB : Hid (Below w.heap.size w V) := hb
  have hcap := h.hcap
  have hmax := h.hmax
  unfold maxLen at hmax
  have HLn : Hid (ws.length = l) := h.hlen
  have HN : Hid (Nums V a l c ws) := h.below hb
  have HC1 : Hid (∀ wx : World, Calls Try.prog 21 #[.int .i64 N] wx fun e w' => e = .returned (.bool (isBd N)) ∧ w' = wx) := fun wx => (x14bound_any N wx).mono fun e w' q => ⟨q.1, q.2.symm⟩
  obtain ⟨z, hz⟩ : ∃ z, z = isBd N := ⟨_, rfl⟩
  rw [← hz] at HC1
  clear hb h hVe hG
  go_enter Try.func30, Try.ntmps30
  go_upto_region 1 with fail
  rw [← HVe.out, ← HG.out]
  clear HVe HG
  cases z with
  | false =>
    have HR : Hid (¬ RightS N ws) := right_no N ws hz.symm
    clear hz
    go_quiet ((go_at_call 21; exact Calls.quiet_of_same (HC1.out _)))
    go_wp2
    go_ret
    exact ⟨false, rfl, ⟨fun e => (by cases e), fun e => absurd e HR.out⟩, below_drewN HB.out _⟩
  | true =>
  obtain ⟨M, rfl, hM⟩ := isBd_true hz.symm
  have HC2 : Hid (∀ wx : World, Calls Try.prog 32 #[.int .i64 (M : Int)] wx fun e w' => e = .returned (.int .i64 (((M + 63) / 64 : Nat) : Int)) ∧ w' = wx) := fun wx => (x14words_any M hM wx).mono fun e w' q => ⟨q.1, q.2.symm⟩
  obtain ⟨q, hq⟩ : ∃ q, q = (M + 63) / 64 := ⟨_, rfl⟩
  rw [← hq] at HC2
  have hq2 : q ≤ 1024 := by omega
  by_cases n3 : l = q
  case neg =>
    have d3 : ((l : Int) != (q : Int)) = true := by simp; omega
    have d3' : ((l : Int) == (q : Int)) = false := by simp; omega
    have HR : Hid (¬ RightS (M : Int) ws) := fun e => by have := e.len; rw [HLn.out] at this; omega
    clear n3 hq hz
    go_quiet (first | (go_at_call 21; exact Calls.quiet_of_same (HC1.out _)) | (go_at_call 32; exact Calls.quiet_of_same (HC2.out _)))
    go_wp2
    go_ret
    exact ⟨false, rfl, ⟨fun e => (by cases e), fun e => absurd e HR.out⟩, below_drewN HB.out _⟩
  subst n3
  have d3 : ((l : Int) != (l : Int)) = false := by simp
  have HL : Hid (ws.length = (M + 63) / 64) := HLn.out.trans hq
  have HQ : Hid (l = (M + 63) / 64) := hq
  clear hq hz
  go_quiet (first | (go_at_call 21; exact Calls.quiet_of_same (HC1.out _)) | (go_at_call 32; exact Calls.quiet_of_same (HC2.out _)))
  clear HC1 HC2 d3
  generalize hW : World.drewN V nq = W
  replace x0 : W.cell? ⟨G, 0, none⟩ = some (.int .i64 (M : Int)) := by subst hW; simpa using x0
  replace x1 : W.cell? ⟨G, 1, none⟩ = some (.slice a l c) := by subst hW; simpa using x1
  have HNW : Hid (Nums W a l c ws ∧ Below w.heap.size w W) := by subst hW; exact ⟨HN.out.below (below_drewN (Below.refl _ _) _), below_drewN HB.out _⟩
  clear HN HB hW
  by_cases l0 : l = 0
  · subst l0
    have HR : Hid (RightS (M : Int) ws) := RightS.of_last hM HL.out (fun q e => by have := HLn.out; omega)
    go_wp2
    go_upto_region 4 with fail
    go_quiet (fail)
    go_wp2
    go_ret
    exact ⟨true, rfl, ⟨fun _ => HR.out, fun _ => rfl⟩, below_drewN HNW.out.2 _⟩
  obtain ⟨k, hk⟩ : ∃ k : Nat, l = k + 1 := ⟨l - 1, by omega⟩
  have e1 : (l : Int) - 1 = (k : Int) := by omega
  obtain ⟨b, off, m, rfl, hc, hm, hlt⟩ := word_at HNW.out.1 (q := k) (by omega)
  have HC3 : Hid (∀ wx : World, Calls Try.prog 23 #[.int .i64 (M : Int), .int .i64 (k : Int)] wx fun e w' => e = .returned (.int .u64 ((2 ^ inWord M k - 1 : Nat) : Int)) ∧ w' = wx) := fun wx => (x14whole_any M k (by have := HQ.out; omega) hM wx).mono fun e w' q => ⟨q.1, q.2.symm⟩
  have hin : inWord M k ≤ 64 := Nat.min_le_right _ _
  have hp := whole_lt hin
  have hpb := whole_bit (inWord M k)
  obtain ⟨p, hp0⟩ : ∃ p, p = 2 ^ inWord M k - 1 := ⟨_, rfl⟩
  rw [← hp0] at HC3 hp hpb
  obtain ⟨d, hand, hd1, hd2⟩ := andNot64 m p hlt hp
  have hkl : (k : Int) < (l : Int) := by omega
  have hk0 : (0 : Int) ≤ (k : Int) := by omega
  have hkn : decide ((k : Int) < 0) = false := decide_eq_false (by omega)
  have HD : Hid (d = 0 ↔ RightS (M : Int) ws) := by
    show _ ↔ _
    constructor
    · intro e
      subst e
      refine RightS.of_last hM HL.out (fun q e j hj hi => ?_)
      obtain rfl : q = k := by have := HLn.out; omega
      have := hd2 j
      rw [hpb, Nat.zero_testBit, ← hm.symm] at this
      have hjn : decide (j < inWord M q) = false := decide_eq_false (by omega)
      rw [hjn] at this
      simpa using this.symm
    · intro hr
      apply Nat.eq_of_testBit_eq
      intro j
      rw [hd2 j, Nat.zero_testBit, hpb]
      by_cases hj : j < 64
      · by_cases hi : j < inWord M k
        · simp [hi]
        · have := hr.last (q := k) (by have := HLn.out; omega) hj (by omega)
          rw [← hm] at this
          simp [this]
      · rw [bit_high hlt (by omega)]; rfl
  clear hp hpb hp0 hd1 hd2 hm hlt hin hk l0 HQ HL HLn hM hq2
  by_cases d0 : d = 0
  · subst d0
    have HR : Hid (RightS (M : Int) ws) := HD.out.1 rfl
    clear HD
    go_wp2
    go_upto_region 4 with fail
    go_quiet ((go_at_call 23; exact Calls.quiet_of_same (HC3.out _)))
    go_wp2
    go_ret
    exact ⟨true, rfl, ⟨fun _ => HR.out, fun _ => rfl⟩, below_drewN HNW.out.2 _⟩
  · have HR : Hid (¬ RightS (M : Int) ws) := fun e => d0 (HD.out.2 e)
    have hdz : ((d : Int) == 0) = false := by simp; omega
    clear HD d0
    go_wp2
    go_upto_region 4 with fail
    go_quiet ((go_at_call 23; exact Calls.quiet_of_same (HC3.out _)))
    go_wp2
    go_ret
    exact ⟨false, rfl, ⟨fun e => (by cases e), fun e => absurd e HR.out⟩, below_drewN HNW.out.2 _⟩
end Go.Proofs.Ytfgccldkbolkoaa

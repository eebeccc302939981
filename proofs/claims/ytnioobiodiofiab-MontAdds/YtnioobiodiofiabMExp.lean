/-
  Contracts of a ring's Exp, and of the document's Power and Exp.
-/
import Derived.Test.YtnioobiodiofiabRaised
import Derived.BigRegion
namespace Go.Proofs.Ytnioobiodiofiab
open Go.RowKit

/-- What is told of a power. -/
def ResExp (ok : Bool) (zs : List Int) (v : Int) (E : Nat) (ls : List Int) (err : Int) : Prop := if ok = true then err = 0 ∧ Digs 18446744073709551616 ls ∧ belowB ls zs = true ∧ val 18446744073709551616 ls = v ^ E % val 18446744073709551616 zs else err = 1 ∧ ls = []

theorem ResExp.bad (zs : List Int) (v : Int) (E : Nat) : ResExp false zs v E [] 1 := by simp [ResExp]
theorem ResExp.ok {zs : List Int} {v : Int} {E : Nat} {ls : List Int} (h0 : Digs 18446744073709551616 ls) (h1 : belowB ls zs = true) (h2 : val 18446744073709551616 ls = v ^ E % val 18446744073709551616 zs) : ResExp true zs v E ls 0 := by simp only [ResExp, if_true]; exact ⟨trivial, h0, h1, h2⟩
theorem ResExp.unique {ok : Bool} {zs : List Int} {v : Int} {E : Nat} {ls ks : List Int} {e f : Int} (h : ResExp ok zs v E ls e) (h' : ResExp ok zs v E ks f) : ls = ks ∧ e = f := by
  unfold ResExp at h h'
  cases ok with
  | false => simp at h h'; exact ⟨h.2.trans h'.2.symm, h.1.trans h'.1.symm⟩
  | true =>
    rw [if_pos rfl] at h h'
    exact ⟨val_inj (by decide) h.2.1 h'.2.1 (right_top (below_parts h.2.2.1).1) (right_top (below_parts h'.2.2.1).1) (h.2.2.2.trans h'.2.2.2.symm), h.1.trans h'.1.symm⟩

/-- May the arguments of a power be? -/
def expB (xs es zs : List Int) : Bool := belowB xs zs && (rightB es && decide (es.length ≤ 8))

theorem mf_one {zs ls qs : List Int} {f : Int} (hR : RingOk zs f qs) (hd : Digs 18446744073709551616 zs) (h : Red zs (val 18446744073709551616 qs) ls) : MF zs 1 ls := by
  refine ⟨h.belowB hR.modOk hd, red_in (a := 1) hR.modOk (h.mod ?_)⟩
  rw [hR.sq, Int.emod_emod, Int.one_mul]

theorem mf_in {zs ls qs xs : List Int} {f : Int} (hR : RingOk zs f qs) (hd : Digs 18446744073709551616 zs) (h : Red zs (val 18446744073709551616 xs * val 18446744073709551616 qs) ls) : MF zs (val 18446744073709551616 xs) ls := by
  refine ⟨h.belowB hR.modOk hd, red_in hR.modOk (h.mod ?_)⟩
  rw [hR.sq, Int.mul_emod, Int.emod_emod, ← Int.mul_emod]

theorem mf_out {zs ls ps : List Int} {v : Int} (hm : ModOk zs) (hd : Digs 18446744073709551616 zs) (h : Red zs (val 18446744073709551616 ps) ls) (hp : MF zs v ps) : belowB ls zs = true ∧ val 18446744073709551616 ls = v % val 18446744073709551616 zs := by
  refine ⟨h.belowB hm hd, ?_⟩
  have e := h.2.2.2
  rw [hp.2, Int.mul_comm v, pow64] at e
  have e2 := pow_cancel hm.odd _ e
  rw [Int.emod_eq_of_lt (val_nonneg (by decide) h.1) h.2.2.1] at e2
  exact e2

theorem sq_fits {zs qs : List Int} {f : Int} (hR : RingOk zs f qs) : val 18446744073709551616 qs < val 18446744073709551616 zs * 18446744073709551616 ^ zs.length := by
  have h1 : val 18446744073709551616 qs < val 18446744073709551616 zs := by rw [hR.sq]; exact Int.emod_lt_of_pos _ (by have := hR.three; omega)
  have h2 := pow_pos' (B := 18446744073709551616) (by decide) zs.length
  have h3 : val 18446744073709551616 zs * 1 ≤ val 18446744073709551616 zs * 18446744073709551616 ^ zs.length := Int.mul_le_mul_of_nonneg_left (by omega) (by have := hR.three; omega)
  omega

theorem below_fits {zs ps qs : List Int} {f : Int} (hR : RingOk zs f qs) (h : belowB ps zs = true) : val 18446744073709551616 ps < val 18446744073709551616 zs * 18446744073709551616 ^ zs.length := by
  have h1 := (below_parts h).2
  have h2 := pow_pos' (B := 18446744073709551616) (by decide) zs.length
  have h3 : val 18446744073709551616 zs * 1 ≤ val 18446744073709551616 zs * 18446744073709551616 ^ zs.length := Int.mul_le_mul_of_nonneg_left (by omega) (by have := hR.three; omega)
  omega

set_option maxHeartbeats 1600000 in
theorem mExp_any (p : Option Addr) (zs : List Int) (f : Int) (qs : List Int) (a b : Option Addr) (la ca lb cb : Nat) (xs es : List Int) (E : Nat) (w : World) (h : RingAt w p zs f qs) (hR : RingOk zs f qs) (ha : Nums w a la ca xs) (hb : Nums w b lb cb es) (he : val 18446744073709551616 es = (E : Int)) :
    Calls Try.prog 10 #[.pointer p, .slice a la ca, .slice b lb cb] w fun e w' => ∃ a' n c' ls err, e = .returned (.tuple #[.slice a' n c', .int .i64 err]) ∧ Nums w' a' n c' ls ∧
      ResExp (expB xs es zs) zs (val 18446744073709551616 xs) E ls err ∧ Below w.heap.size w w' := by
  have HR0 := h
  obtain ⟨g, na, n, nc, q, m, cq, rfl, h0, h1, h2, hn, hq⟩ := h
  have hel := hb.hlen
  cases hx : belowB xs zs with
  | false =>
    have e : expB xs es zs = false := by simp [expB, hx]
    rw [e]
    clear hel
    go_enter Try.func10, Try.ntmps10
    go_wp2_with fail
    refine (has_any _ _ _ _ _ _ _ _ _ HR0 hR.right ha).mono ?_
    rintro e w1 ⟨rfl, hb1⟩
    rw [hx]
    go_wp2_with fail
    go_ret2
    exact ⟨none, 0, 0, [], 1, rfl, Nums.nil _, ResExp.bad _ _ _, hb1⟩
  | true =>
  cases hr : rightB es with
  | false =>
    have e : expB xs es zs = false := by simp [expB, hr]
    rw [e]
    clear hel
    go_enter Try.func10, Try.ntmps10
    go_wp2_with fail
    refine (has_any _ _ _ _ _ _ _ _ _ HR0 hR.right ha).mono ?_
    rintro e w1 ⟨rfl, hb1⟩
    rw [hx]
    go_wp2_with fail
    refine (right_any _ _ _ _ _ (hb.below hb1)).mono ?_
    rintro e w2 ⟨rfl, rfl⟩
    rw [hr]
    go_wp2_with fail
    go_ret2
    exact ⟨none, 0, 0, [], 1, rfl, Nums.nil _, ResExp.bad _ _ _, hb1⟩
  | true =>
  by_cases h8 : lb ≤ 8
  · have e : expB xs es zs = true := by simp [expB, hx, hr, hel, h8]
    rw [e]
    have hqb := hR.sqB hn.digs hq.digs
    have hzd := hn.digs
    have hd8 : decide ((8 : Int) < (lb : Int)) = false := by simp; omega
    clear hel e
    go_enter Try.func10, Try.ntmps10
    go_wp2_with fail
    refine (has_any _ _ _ _ _ _ _ _ _ HR0 hR.right ha).mono ?_
    rintro e w1 ⟨rfl, hb1⟩
    rw [hx]
    go_wp2_with fail
    refine (right_any _ _ _ _ _ (hb.below hb1)).mono ?_
    rintro e w2 ⟨rfl, rfl⟩
    rw [hr]
    have k2 : w2.cell? ⟨g, 2, none⟩ = some (.slice q m cq) := (hb1.cell (World.block_lt_of_cell? w _ h2)).trans h2
    have HR1 := HR0.below hb1
    have ha1 := ha.below hb1
    have hq1 := hq.below hb1
    have hB1 := hb.below hb1
    have HRed : Hid (∀ wx, RingAt wx (some ⟨g, 0, none⟩) zs f qs → Nums wx a la ca xs → Nums wx b lb cb es → Nums wx q m cq qs → wx.cell? ⟨g, 2, none⟩ = some (.slice q m cq) → Below w.heap.size w wx →
        Calls Try.prog 31 #[.pointer (some ⟨g, 0, none⟩), .slice q m cq] wx fun e w' => ∃ oa on oc, e = .returned (.slice oa on oc) ∧ (∃ os, Nums w' oa on oc os ∧ MF zs 1 os ∧ RingAt w' (some ⟨g, 0, none⟩) zs f qs ∧ Nums w' a la ca xs ∧ Nums w' b lb cb es ∧ Nums w' q m cq qs ∧ Below w.heap.size w w') ∧ w'.cell? ⟨g, 2, none⟩ = some (.slice q m cq)) := by
      intro wx r1 r2 r3 r4 r5 r6
      refine (reduced_any _ _ _ _ _ _ _ _ _ r1 hR r4 (below_parts hqb).1 (sq_fits hR)).mono ?_
      rintro e w3 ⟨oa, on, oc, os, rfl, ho, hred, hb3⟩
      exact ⟨oa, on, oc, rfl, ⟨os, ho, mf_one hR hzd hred, r1.below hb3, r2.below hb3, r3.below hb3, r4.below hb3, r6.trans (hb3.mono r6.size)⟩, (hb3.cell (World.block_lt_of_cell? _ _ r5)).trans r5⟩
    have HPr : Hid (∀ wx (oa : Option Addr) (on oc : Nat), (∃ os, Nums wx oa on oc os ∧ MF zs 1 os ∧ RingAt wx (some ⟨g, 0, none⟩) zs f qs ∧ Nums wx a la ca xs ∧ Nums wx b lb cb es ∧ Nums wx q m cq qs ∧ Below w.heap.size w wx) →
        Calls Try.prog 32 #[.pointer (some ⟨g, 0, none⟩), .slice a la ca, .slice q m cq] wx fun e w' => ∃ pa pn pc, e = .returned (.slice pa pn pc) ∧ ∃ os ps, Nums w' oa on oc os ∧ MF zs 1 os ∧ Nums w' pa pn pc ps ∧ MF zs (val 18446744073709551616 xs) ps ∧ RingAt w' (some ⟨g, 0, none⟩) zs f qs ∧ Nums w' b lb cb es ∧ Below w.heap.size w w') := by
      rintro wx oa on oc ⟨os, r1, r2, r3, r4, r5, r6, r7⟩
      refine (mprod_any _ _ _ _ _ _ _ _ _ _ _ _ _ r3 hR r4 r6 hx hqb).mono ?_
      rintro e w3 ⟨pa, pn, pc, ps, rfl, hp, hred, hb3⟩
      exact ⟨pa, pn, pc, rfl, os, ps, r1.below hb3, r2, hp, mf_in hR hzd hred, r3.below hb3, r5.below hb3, r7.trans (hb3.mono r7.size)⟩
    clear h0 h1 h2 HR0 ha hn hq hb
    go_wp2_with fail
    go_region_with (first
      | (go_at_call 31; refine (HRed.out _ ?_ ?_ ?_ ?_ ?_ ?_).mono ?_; (exact HR1.below ⟨rfl, rfl, rfl, Nat.le_refl _, fun _ _ => rfl⟩); (exact ⟨ha1.hlen, ha1.hcap, ha1.hmax, ha1.cells, ha1.word⟩); (exact ⟨hB1.hlen, hB1.hcap, hB1.hmax, hB1.cells, hB1.word⟩); (exact ⟨hq1.hlen, hq1.hcap, hq1.hmax, hq1.cells, hq1.word⟩); (exact k2); (exact ⟨hb1.os, hb1.tape, hb1.output, hb1.size, hb1.block⟩); rintro e w3 ⟨oa, on, oc, rfl, hO3, k3⟩)
      | (go_at_call 32; refine (HPr.out _ oa on oc ?_).mono ?_; (exact hO3); rintro e w4 ⟨pa, pn, pc, rfl, hP4⟩))
    all_goals
      obtain ⟨os, ps, r1, r2, r3, r4, r5, r6, r7⟩ := hP4
      clear hO3 k3 k2 HR1 ha1 hq1 hB1 HRed HPr hb1
      have hmf : ∀ (fn : Fn) (first cap : Array Value) (w : World), (Instr.makeFunc fn first cap).run Try.prog w = .ok (.func fn first cap) w := fun _ _ _ _ => rfl
      go_wp2_with fail
      refine (raised_any _ _ _ _ _ _ _ _ _ _ _ _ _ _ _ _ _ _ _ r5 hR r1 r3 r6 r2 r4 he hr h8).mono ?_
      rintro e w5 ⟨ta, tn, tc, ts, rfl, ht, htm, hb5⟩
      have hB5 := r7.trans (hb5.mono r7.size)
      have hR5 := r5.below hb5
      clear r1 r2 r3 r4 r5 r6 r7 hb5
      go_wp2_with fail
      refine (reduced_any _ _ _ _ _ _ _ _ _ hR5 hR ht (below_parts htm.1).1 (below_fits hR htm.1)).mono ?_
      rintro e w6 ⟨ua, un, uc, us, rfl, hu, hred, hb6⟩
      have HQ := (show Hid _ from mf_out hR.modOk hzd hred htm)
      have hB6 := hB5.trans (hb6.mono hB5.size)
      clear hred htm
      go_wp2_with fail
      go_ret2
      exact ⟨_, _, _, _, _, rfl, hu, ResExp.ok hu.digs HQ.out.1 HQ.out.2, hB6⟩
  · have e : expB xs es zs = false := by simp [expB, hel, h8]
    rw [e]
    have hlt : (8 : Int) < (lb : Int) := by omega
    clear hel e
    go_enter Try.func10, Try.ntmps10
    go_wp2_with fail
    refine (has_any _ _ _ _ _ _ _ _ _ HR0 hR.right ha).mono ?_
    rintro e w1 ⟨rfl, hb1⟩
    rw [hx]
    go_wp2_with fail
    refine (right_any _ _ _ _ _ (hb.below hb1)).mono ?_
    rintro e w2 ⟨rfl, rfl⟩
    rw [hr]
    go_wp2_with fail
    go_ret2
    exact ⟨none, 0, 0, [], 1, rfl, Nums.nil _, ResExp.bad _ _ _, hb1⟩
end Go.Proofs.Ytnioobiodiofiab

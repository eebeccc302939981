/-
  The contracts of a ring's reduced and product.
-/
import Derived.Test.YtnbdbahfekneoaaGreatMontA
import Derived.BigRegion
namespace Go.Proofs.YtnbdbahfekneoaaGreat
open Go.RowKit

theorem red_start {xs : List Int} {la k : Nat} (hl : xs.length = la) (h : la ≤ 2 * k + 1) : (over xs (noughts (2 * k + 1)) la).length = 2 * k + 1 ∧ vs 18446744073709551616 (fun j => (over xs (noughts (2 * k + 1)) la).getD j 0) (2 * k + 1) = val 18446744073709551616 xs := by
  have e : (over xs (noughts (2 * k + 1)) la).length = 2 * k + 1 := by rw [over_noughts]; simp [hl]; omega
  refine ⟨e, ?_⟩
  rw [vs_all _ _ (by omega), over_noughts, val_pad]

set_option maxHeartbeats 1600000 in
theorem reduced_any (p : Option Addr) (zs : List Int) (f : Int) (qs : List Int) (a : Option Addr) (la ca : Nat) (xs : List Int) (w : World) (h : RingAt w p zs f qs) (hR : RingOk zs f qs) (ha : Nums w a la ca xs) (hx : rightB xs = true)
    (hlt : val 18446744073709551616 xs < val 18446744073709551616 zs * 18446744073709551616 ^ zs.length) :
    Calls Tryz.prog 112 #[.pointer p, .slice a la ca] w fun e w' => ∃ a' n c' ls, e = .returned (.slice a' n c') ∧ Nums w' a' n c' ls ∧ Red zs (val 18446744073709551616 xs) ls ∧ Below w.heap.size w w' := by
  have HR0 := h
  obtain ⟨g, na, k, nc, q, m, cq, rfl, h0, h1, h2, hn, hq⟩ := h
  have hzl := hn.hlen
  have hxl := ha.hlen
  have hzd := hn.digs
  have hxd := ha.digs
  have hk := hR.len
  rw [hzl] at hk hlt
  have hzp : 0 < val 18446744073709551616 zs := by have := hR.three; omega
  have hla : la ≤ 2 * k := by
    have e1 : xs.length ≤ k + k := len_le (B := 18446744073709551616) (by decide) hxd (right_top hx) (by
      rw [Int.pow_add]
      have h1 := val_lt (B := 18446744073709551616) (by decide) hzd
      rw [hzl] at h1
      have h2 := pow_pos' (B := 18446744073709551616) (by decide) k
      have h3 : val 18446744073709551616 zs * 18446744073709551616 ^ k ≤ 18446744073709551616 ^ k * 18446744073709551616 ^ k := Int.mul_le_mul_of_nonneg_right (Int.le_of_lt h1) (Int.le_of_lt h2)
      omega)
    omega
  have HL0 := (show Hid _ from red_start (k := k) hxl (by omega))
  have HD0 : Hid (Digs 18446744073709551616 (over xs (noughts (2 * k + 1)) la)) := by rw [over_noughts]; exact hxd.pad _
  have HF : Hid (zs.length = k ∧ xs.length = la ∧ val 18446744073709551616 xs < val 18446744073709551616 zs * 18446744073709551616 ^ k) := ⟨hzl, hxl, hlt⟩
  have hapn : 0 < k → Apart na w.heap.size := fun hp x hx => by
    obtain ⟨b1, o1, rfl, hc⟩ := hn.cells hp
    have := World.block_lt_of_cell? w _ (hc 0 hp)
    cases hx
    simp at this ⊢; omega
  have hg : g < w.heap.size := World.block_lt_of_cell? w _ h0
  clear hzl hxl hlt
  go_enter Tryz.func112, Tryz.ntmps112
  go_wp2_with (at_make; refine wpList_mk _ rfl _ _ 28 rfl Tryz.underlying28 .i64 .i64 _ _ (2 * k + 1) rfl rfl (by omega) (by omega) (by omega) ?_)
  intro w1 hb1 hbel hsz
  have hxa := ha.below hbel
  go_wp2_with (refine wpList_cp _ (by rfl) _ _ 28 28 (by rfl) Tryz.underlying28 w.heap.size (2 * k + 1) (2 * k + 1) _ (by rfl) hb1 (by simp [noughts]) _ _ _ xs (by rfl) hxa (by omega) ?_)
  intro w2 hb2 hg2 hsz2
  have hbel2 := hbel.trans (below_of_grown hg2 (Nat.le_refl _) hbel.size)
  clear hb1 hg2 hxa hbel
  go_wp2
  go_loopw [21] (fun v wr => ∃ i : Nat, i ≤ k ∧ v = .int .i64 i ∧ ∃ M t, Blk wr w.heap.size M ∧ M.length = 2 * k + 1 ∧ Digs 18446744073709551616 M ∧ (∀ j, j < i → M.getD j 0 = 0) ∧
      vs 18446744073709551616 (fun j => M.getD j 0) (2 * k + 1) = val 18446744073709551616 xs + t * val 18446744073709551616 zs ∧ (0 ≤ t ∧ t < 18446744073709551616 ^ i) ∧ Below w.heap.size w wr) (fun v _ => k - (intOf v).toNat)
  case atStart => exact ⟨0, Nat.zero_le _, rfl, _, 0, hb2, HL0.out.1, HD0.out, fun j hj => by omega, by rw [HL0.out.2]; simp, by simp, hbel2⟩
  case round =>
    obtain ⟨i, hi, rfl, M, t, hbM, hml, hmd, hlow, hv, ht, hbr⟩ := hrel
    clear hb2 hbel2 HL0 HD0
    have k0 : wr.cell? ⟨g, 0, none⟩ = some (.slice na k nc) := (hbr.cell (p := ⟨g, 0, none⟩) hg).trans h0
    have k1 : wr.cell? ⟨g, 1, none⟩ = some (.int .u64 f) := (hbr.cell (p := ⟨g, 1, none⟩) hg).trans h1
    by_cases hlt : i < k
    · obtain ⟨x, hx'⟩ : ∃ x, x = M.getD i 0 := ⟨_, rfl⟩
      have hc1 : wr.cell? ⟨w.heap.size, i, none⟩ = some (.int .u64 x) := by rw [hx']; exact hbM.cell (by omega)
      have hki : (i : Int) < (k : Int) := by omega
      have hki2 : (i : Int) < 2 * (k : Int) + 1 := by omega
      have hne : ¬ 2 * k + 1 = i := by omega
      have hn2 := hn.below hbr
      have hw0 : 0 ≤ IntKind.u64.wrap (x * f) ∧ IntKind.u64.wrap (x * f) < 18446744073709551616 := by rw [wrap64]; omega
      have HA : Hid (∀ wx, Blk wx w.heap.size M → Nums wx na k nc zs → Below w.heap.size w wx → Calls Tryz.prog 136 #[.slice (some ⟨w.heap.size, i, none⟩) (2 * k + 1 - i) (2 * k + 1 - i), .slice na k nc, .int .u64 (IntKind.u64.wrap (x * f))] wx fun e w' => e = .returned (.tuple #[]) ∧ ∃ N t', Blk w' w.heap.size N ∧ N.length = 2 * k + 1 ∧
          Digs 18446744073709551616 N ∧ (∀ j, j < i + 1 → N.getD j 0 = 0) ∧ vs 18446744073709551616 (fun j => N.getD j 0) (2 * k + 1) = val 18446744073709551616 xs + t' * val 18446744073709551616 zs ∧ (0 ≤ t' ∧ t' < 18446744073709551616 ^ (i + 1)) ∧ Below w.heap.size w w') := by
        intro wx hbx hnx hbw
        refine (maddTimes_any _ w.heap.size i (2 * k + 1 - i) (2 * k + 1 - i) M na k nc zs _ wx rfl hw0 hbx hmd (by omega) (by omega) (by omega) hnx hapn (red_fits hlt HF.out.1 hzd hzp hlow hv ht hw0 HF.out.2.2)).mono ?_
        rintro e w' ⟨N, rfl, hbN, hNd, hNl, hNs, hseg, hg⟩
        obtain ⟨r1, t', r2, r3⟩ := red_step hlt HF.out.1 hR.fac hNd hlow hv ht (by rw [← hx', wrap64]) hNs hseg
        exact ⟨rfl, N, t', hbN, hNl.trans hml, hNd, r1, r2, r3, hbw.trans (below_of_grown hg (Nat.le_refl _) hbw.size)⟩
      clear hx' hml hmd hlow hv ht hw0 HF hzd hxd hzp hR HR0 h0 h1 h2 hq hn ha
      go_wp2_with fail
      go_region_with (go_at_call 136; refine (HA.out _ ?_ ?_ ?_).mono ?_; (exact hbM); (exact ⟨hn2.hlen, hn2.hcap, hn2.hmax, hn2.cells, hn2.word⟩); (exact ⟨hbr.os, hbr.tape, hbr.output, hbr.size, hbr.block⟩); rintro e w2 ⟨rfl, HP⟩)
      all_goals
        have HQ := (show Hid _ from HP)
        clear HP hbM hn2 hbr hc1 HA
        go_wp2
        go_roundw
        case rel =>
          obtain ⟨N, t', q1, q2, q3, q4, q5, q6, q7⟩ := HQ.out
          exact ⟨i + 1, by omega, by go_num, N, t', q1, q2, q3, q4, q5, q6, ⟨q7.os, q7.tape, q7.output, q7.size, q7.block⟩⟩
        case measure => simp [intOf]; omega
    · obtain rfl : i = k := by omega
      have hE := red_end hzp hlow hv ht HF.out.2.2
      have hnum : Nums wr (some ⟨w.heap.size, i, none⟩) (2 * i + 1 - i) (2 * i + 1 - i) (M.drop i) := by
        refine ⟨by simp [hml], Nat.le_refl _, by unfold maxLen; omega, fun _ => ⟨_, _, rfl, fun j hj => ?_⟩, fun y hy => hmd y (List.mem_of_mem_drop hy)⟩
        rw [hbM.cell (by omega)]
        simp [List.getD]
      have hval : val 18446744073709551616 (M.drop i) = vs 18446744073709551616 (fun j => M.getD (i + j) 0) (i + 1) := by
        rw [← vs_all _ (M.drop i) (n := i + 1) (by simp [hml]; omega)]
        exact vs_congr (fun j _ => by simp [List.getD])
      rw [← hval] at hE
      have HE := (show Hid _ from hE)
      have HRb := HR0.below hbr
      clear hE hval hlow hv ht hbM hml hmd k1 hlt h0 h1 h2 hn ha hq
      have hne : ¬ 2 * i + 1 = i := by omega
      have hki : (i : Int) ≤ 2 * (i : Int) + 1 := by omega
      obtain ⟨s, hs⟩ : ∃ s, s = 2 * i + 1 - i := ⟨_, rfl⟩
      have hs9 : s ≤ 9 := by omega
      go_wp2_with fail
      rw [← hs] at hnum ⊢
      have hsl := hnum.hlen
      refine (mtrimmed_any _ _ _ _ _ hnum).mono ?_
      rintro e v0 ⟨a', n', c', rfl, htr, hcase, rfl⟩
      have hnl : n' ≤ s := by have := htr.le; omega
      have hn1 : Nums v0 a' n' c' ((M.drop i).take n') := by
        rcases hcase with ⟨rfl, rfl, rfl⟩ | ⟨_, rfl, rfl⟩
        · simpa using Nums.nil v0
        · exact hnum.take hnl
      have hr1 : rightB ((M.drop i).take n') = true := right_mk (by have := hn1.hlen; omega) htr.Top
      have HT : Hid (val 18446744073709551616 ((M.drop i).take n') = val 18446744073709551616 (M.drop i)) := htr.val
      have hlt2 : val 18446744073709551616 ((M.drop i).take n') < 2 * val 18446744073709551616 zs := by rw [HT.out]; exact HE.out.2
      generalize (M.drop i).take n' = ts at hn1 hr1 HT hlt2
      clear hnum htr hcase hsl hs hki hne
      go_wp2_with fail
      refine (brought_any _ _ _ _ _ _ _ _ _ HRb hR.right hn1 hr1 hlt2).mono ?_
      rintro e v1 ⟨a2, n2, c2, ls, rfl, hls, htop, hlz, hex, hb2⟩
      have HP : Hid (Red zs (val 18446744073709551616 xs) ls) := by
        obtain ⟨u, hu⟩ := hex
        refine ⟨hls.digs, htop, hlz, ?_⟩
        have e1 := HE.out.1
        rw [← HT.out, hu, Int.mul_add] at e1
        rw [HF.out.1]
        have e2 : 18446744073709551616 ^ i * val 18446744073709551616 ls = val 18446744073709551616 xs + val 18446744073709551616 zs * (t - 18446744073709551616 ^ i * u) := by
          rw [Int.mul_sub, Int.mul_comm (val 18446744073709551616 zs) t, ← Int.mul_assoc, Int.mul_comm (val 18446744073709551616 zs), Int.mul_assoc, Int.mul_comm (val 18446744073709551616 zs)]
          omega
        rw [e2, Int.add_mul_emod_self_left]
      have hb := hbr.trans (hb2.mono hbr.size)
      clear hex hlz htop hlt2
      go_wp2_with fail
      go_ret
      exact ⟨_, _, _, _, rfl, hls, HP.out, hb⟩
end Go.Proofs.YtnbdbahfekneoaaGreat

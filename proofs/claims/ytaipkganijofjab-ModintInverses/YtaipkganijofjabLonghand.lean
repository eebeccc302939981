/-
  The contract of longhand: a product limb by limb.
-/
import Derived.Test.YtaipkganijofjabAddTimes
namespace Go.Proofs.Ytaipkganijofjab
open Go.RowKit

theorem long_step {M N xs ys : List Int} {i n : Nat} {x cy : Int} (hN : N.length = n) (hi : i < xs.length) (hlt : i + ys.length < n) (hx : x = xs.getD i 0) (hz : M.getD (i + ys.length) 0 = 0)
    (hs : ∀ j, j < i ∨ i + ys.length ≤ j → N.getD j 0 = M.getD j 0) (hM : vs 18446744073709551616 (fun j => M.getD j 0) n = val 18446744073709551616 (xs.take i) * val 18446744073709551616 ys)
    (hv : vs 18446744073709551616 (fun t => N.getD (i + t) 0) ys.length + 18446744073709551616 ^ ys.length * cy = vs 18446744073709551616 (fun t => M.getD (i + t) 0) ys.length + x * vs 18446744073709551616 (fun t => ys.getD t 0) ys.length) :
    vs 18446744073709551616 (fun j => (N.set (i + ys.length) cy).getD j 0) n = val 18446744073709551616 (xs.take (i + 1)) * val 18446744073709551616 ys := by
  rw [vs_set hlt (by omega), hs (i + ys.length) (by omega), hz, vs_seg (o := i) (m := ys.length) (by omega) hs, hM, val_take_succ _ _ _ hi, ← hx, Int.add_mul, Int.mul_assoc, Int.sub_zero, Int.pow_add]
  rw [vs_all _ ys (Nat.le_refl _)] at hv
  have e : vs 18446744073709551616 (fun t => N.getD (i + t) 0) ys.length - vs 18446744073709551616 (fun t => M.getD (i + t) 0) ys.length + 18446744073709551616 ^ ys.length * cy = x * val 18446744073709551616 ys := by omega
  rw [← e, Int.mul_add, Int.mul_assoc]
  omega

set_option maxHeartbeats 1600000 in
theorem longhand_any (a b : Option Addr) (la ca lb cb : Nat) (xs ys : List Int) (w : World) (h : Nums w a la ca xs) (h' : Nums w b lb cb ys) (hla : la ≤ 10000) (hlb : lb ≤ 10000) :
    Calls Try.prog 95 #[.slice a la ca, .slice b lb cb] w fun e w' => ∃ L g n, e = .returned (.slice (some ⟨g, 0, none⟩) n n) ∧ L.length = n ∧ n = la + lb ∧ w.heap.size ≤ g ∧
      Blk w' g L ∧ Digs 18446744073709551616 L ∧ val 18446744073709551616 L = val 18446744073709551616 xs * val 18446744073709551616 ys ∧ Below w.heap.size w w' := by
  have HL : Hid (xs.length = la ∧ ys.length = lb) := ⟨h.hlen, h'.hlen⟩
  have hd := h.digs
  have hd' := h'.digs
  have hapb : 0 < lb → Apart b w.heap.size := fun hp x hx => by
    obtain ⟨b1, o1, rfl, hc⟩ := h'.cells hp
    have := World.block_lt_of_cell? w _ (hc 0 hp)
    cases hx
    simp at this ⊢; omega
  go_enter Try.func95, Try.ntmps95
  go_wp2_with (at_make; refine wpList_mk _ rfl _ _ 23 rfl Try.underlying23 .i64 .i64 _ _ (la + lb) rfl rfl (by omega) (by omega) (by omega) ?_)
  intro w1 hb1 hbel hsz
  have hz0 : vs 18446744073709551616 (fun j => (noughts (la + lb)).getD j 0) (la + lb) = val 18446744073709551616 (xs.take 0) * val 18446744073709551616 ys := by
    rw [vs_zero _ (fun i hi => by simp [noughts, List.getD, hi])]; simp [val]
  have HN : Hid (vs 18446744073709551616 (fun j => (noughts (la + lb)).getD j 0) (la + lb) = val 18446744073709551616 (xs.take 0) * val 18446744073709551616 ys ∧ (noughts (la + lb)).length = la + lb ∧ Digs 18446744073709551616 (noughts (la + lb)) ∧ ∀ j, (noughts (la + lb)).getD j 0 = 0) :=
    ⟨hz0, length_noughts _, fun x hx => by rw [(List.mem_replicate.1 hx).2]; omega, fun j => by simp only [noughts, List.getD, List.getElem?_replicate]; split <;> rfl⟩
  clear hz0
  go_wp2
  go_loopw [15] (fun iv wr => ∃ i : Nat, i ≤ la ∧ iv = .int .i64 i ∧ ∃ M, Blk wr w.heap.size M ∧ M.length = la + lb ∧ Digs 18446744073709551616 M ∧ (∀ j, i + lb ≤ j → M.getD j 0 = 0) ∧
      vs 18446744073709551616 (fun j => M.getD j 0) (la + lb) = val 18446744073709551616 (xs.take i) * val 18446744073709551616 ys ∧ Below w.heap.size w wr) (fun iv _ => la - (intOf iv).toNat)
  case atStart => exact ⟨0, Nat.zero_le _, rfl, _, hb1, HN.out.2.1, HN.out.2.2.1, fun j _ => HN.out.2.2.2 j, HN.out.1, hbel⟩
  case round =>
    obtain ⟨i, hi, rfl, M, hbM, hMl, hMd, hMz, hMv, hb⟩ := hrel
    have HM : Hid (M.length = la + lb ∧ Digs 18446744073709551616 M ∧ (∀ j, i + lb ≤ j → M.getD j 0 = 0) ∧ vs 18446744073709551616 (fun j => M.getD j 0) (la + lb) = val 18446744073709551616 (xs.take i) * val 18446744073709551616 ys) := ⟨hMl, hMd, hMz, hMv⟩
    clear hMl hMd hMz hMv
    by_cases hlt : i < la
    · have hlti : (i : Int) < (la : Int) := by omega
      have hil : (i : Int) + (lb : Int) < (la : Int) + (lb : Int) := by omega
      obtain ⟨b1, o1, rfl, hc⟩ := (h.below hb).cells (by omega)
      obtain ⟨x, hx⟩ : ∃ x, x = xs.getD i 0 := ⟨_, rfl⟩
      have c1 : wr.cell? ⟨b1, o1 + i, none⟩ = some (.int .u64 x) := by rw [hx]; exact hc i hlt
      have bx : 0 ≤ x ∧ x < 18446744073709551616 := by rw [hx]; exact hd.getD (by decide) _
      have HX : Hid (x = xs.getD i 0) := hx
      have hy2 := h'.below hb
      clear hx hc
      have HA : Hid (∀ wx, Blk wx w.heap.size M → Nums wx b lb cb ys → Below w.heap.size w wx → Calls Try.prog 109 #[.slice (some ⟨w.heap.size, i, none⟩) (la + lb - i) (la + lb - i), .slice b lb cb, .int .u64 x] wx fun e w' => ∃ N cy, e = .returned (.int .u64 cy) ∧ (0 ≤ cy ∧ cy < 18446744073709551616) ∧
          Blk w' w.heap.size N ∧ N.length = la + lb ∧ Digs 18446744073709551616 (N.set (i + lb) cy) ∧ (∀ j, i + 1 + lb ≤ j → (N.set (i + lb) cy).getD j 0 = 0) ∧
          vs 18446744073709551616 (fun j => (N.set (i + lb) cy).getD j 0) (la + lb) = val 18446744073709551616 (xs.take (i + 1)) * val 18446744073709551616 ys ∧ Below w.heap.size w w' ∧ w'.frozen? ⟨w.heap.size, i + lb, none⟩ = false ∧ ∃ v, w'.cell? ⟨w.heap.size, i + lb, none⟩ = some v) := by
        intro wx hbx hyx hbw
        refine (addTimes_any (some ⟨w.heap.size, i, none⟩) w.heap.size i (la + lb - i) (la + lb - i) M b lb cb ys x wx (fun _ => rfl) bx hbx HM.out.2.1 (by omega) (by have := HM.out.1; omega) (by omega) hyx hapb).mono ?_
        rintro e w' ⟨N, cy, rfl, hbN, hNd, hNl, hNs, hcy, hv, hg⟩
        have hNl' : N.length = la + lb := hNl.trans HM.out.1
        refine ⟨N, cy, rfl, hcy, hbN, hNl', hNd.set _ hcy, fun j hj => ?_, ?_, hbw.trans (below_of_grown hg (Nat.le_refl _) hbw.size), hbN.frozen _, _, hbN.cell (by omega)⟩
        · rw [getD_set_ne (by omega), hNs j (by omega)]; exact HM.out.2.2.1 j (by omega)
        · have hl2 := HL.out.2
          have := long_step (M := M) (N := N) (xs := xs) (ys := ys) (i := i) (n := la + lb) (x := x) (cy := cy) hNl' (by have := HL.out.1; omega) (by omega) HX.out (by rw [hl2]; exact HM.out.2.2.1 _ (by omega)) (by rw [hl2]; exact hNs) HM.out.2.2.2 (by rw [hl2]; exact hv)
          rw [hl2] at this
          exact this
      have hne : ¬ la + lb = i := by omega
      go_wp2_with fail
      go_region_with (go_at_call 109; refine (HA.out _ ?_ ?_ ?_).mono ?_; (exact hbM); (exact ⟨hy2.hlen, hy2.hcap, hy2.hmax, hy2.cells, hy2.word⟩); (exact ⟨hb.os, hb.tape, hb.output, hb.size, hb.block⟩); rintro e w2 ⟨N, cy, rfl, hcy, hbN, hNl, hNd, hNz, hNv, hbw, hfz, v0, hcv⟩)
      all_goals
        have HB := (show Hid _ from hbN.set (i + lb) cy)
        have HG : Hid (Below w.heap.size w (w2.setCell ⟨w.heap.size, i + lb, none⟩ (.int .u64 cy))) := hbw.setCell (Nat.le_refl _) _
        have HP : Hid (N.length = la + lb ∧ Digs 18446744073709551616 (N.set (i + lb) cy) ∧ (∀ j, i + 1 + lb ≤ j → (N.set (i + lb) cy).getD j 0 = 0) ∧ vs 18446744073709551616 (fun j => (N.set (i + lb) cy).getD j 0) (la + lb) = val 18446744073709551616 (xs.take (i + 1)) * val 18446744073709551616 ys) := ⟨hNl, hNd, hNz, hNv⟩
        clear hbN hbw hNl hNd hNz hNv hb hbM hy2 c1
        go_wp2
        go_roundw
        case rel => exact ⟨i + 1, by omega, by go_num, _, HB.out, by simpa using HP.out.1, HP.out.2.1, HP.out.2.2.1, HP.out.2.2.2, ⟨HG.out.os, HG.out.tape, HG.out.output, HG.out.size, HG.out.block⟩⟩
        case measure => simp [intOf]; omega
    · obtain rfl : i = la := by omega
      have hfin : val 18446744073709551616 M = val 18446744073709551616 xs * val 18446744073709551616 ys := by
        have := HM.out.2.2.2
        rw [vs_all _ M (by have := HM.out.1; omega), List.take_of_length_le (by have := HL.out; omega)] at this
        exact this
      have HF : Hid (val 18446744073709551616 M = val 18446744073709551616 xs * val 18446744073709551616 ys) := hfin
      clear hfin
      go_wp2
      go_ret
      exact ⟨M, _, _, rfl, HM.out.1, rfl, Nat.le_refl _, hbM, HM.out.2.1, HF.out, hb⟩
end Go.Proofs.Ytaipkganijofjab

/-
  The contract of addTimes: a number times a word, added in its place.
  The contract of longhand: a product limb by limb.
  The contract of parted: a number's limbs below a place, and those from it on.
  The contract of takeFrom: the difference of limbs, in its place.
  The contract of product: Karatsuba's product by a recursive closure.
  The contract of nat.Mul.
  Contracts of slices.Clone and nat.Sub: a copy in new memory; the difference of two numbers.
-/
import Derived.Test.YtchmlfjjgehbkaaGreatNatB
import Derived.Shelf.Spec.BitsCarry
import Derived.Laws.EntriesVeiled
import Derived.Deep.DeepCutAuto
import Derived.Lib.SliceRun
namespace Go.Proofs.YtchmlfjjgehbkaaGreat
open Go.RowKit

theorem add64z (x y : Int) (hx : 0 ≤ x) (hy : 0 ≤ y) (w : World) : (callFunc 117 #[.int .u64 x, .int .u64 y, .int .u64 0]).run Tryz.prog w =
    .ok (.value (.tuple #[.int .u64 (lo (x + y)), .int .u64 (hi (x + y))])) w := by
  have := add64 x y 0 hx hy (Int.le_refl _) (by decide) w
  simpa using this

theorem at_step {L M : List Int} {o n k : Nat} {ys : List Int} {cy m x y : Int} (hk : k < n) (hon : o + n ≤ L.length) (hml : M.length = L.length) (hmd : Digs 18446744073709551616 M) (hyd : Digs 18446744073709551616 ys) (hm : 0 ≤ m ∧ m < 18446744073709551616)
    (hsame : ∀ j, j < o ∨ o + k ≤ j → M.getD j 0 = L.getD j 0) (hc : 0 ≤ cy ∧ cy < 18446744073709551616)
    (hv : vs 18446744073709551616 (fun i => M.getD (o + i) 0) k + 18446744073709551616 ^ k * cy = vs 18446744073709551616 (fun i => L.getD (o + i) 0) k + m * vs 18446744073709551616 (fun i => ys.getD i 0) k)
    (hx : x = M.getD (o + k) 0) (hy : y = ys.getD k 0) {h l r s t : Int} (e1 : l + 18446744073709551616 * h = y * m) (e2 : s + 18446744073709551616 * r = l + x) (h2 : hi (s + cy) = t) (bs : 0 ≤ s ∧ s < 18446744073709551616) (_b1 : 0 ≤ h) (_b2 : 0 ≤ r) :
    (M.set (o + k) (lo (s + cy))).length = L.length ∧ Digs 18446744073709551616 (M.set (o + k) (lo (s + cy))) ∧
    (∀ j, j < o ∨ o + (k + 1) ≤ j → (M.set (o + k) (lo (s + cy))).getD j 0 = L.getD j 0) ∧ (0 ≤ h + r + t ∧ h + r + t < 18446744073709551616) ∧
    vs 18446744073709551616 (fun i => (M.set (o + k) (lo (s + cy))).getD (o + i) 0) (k + 1) + 18446744073709551616 ^ (k + 1) * (h + r + t) = vs 18446744073709551616 (fun i => L.getD (o + i) 0) (k + 1) + m * vs 18446744073709551616 (fun i => ys.getD i 0) (k + 1) := by
  have bx : 0 ≤ x ∧ x < 18446744073709551616 := by rw [hx]; exact hmd.getD (by decide) _
  have by' : 0 ≤ y ∧ y < 18446744073709551616 := by rw [hy]; exact hyd.getD (by decide) _
  have hp := hi_mul_bd by' hm
  have e3 := lo_hi (s + cy)
  have bl := lo_bd (s + cy)
  rw [h2] at e3
  have bt : 0 ≤ t := by rw [← h2]; unfold hi; omega
  generalize hz : lo (s + cy) = z at e3 bl ⊢
  have et : z + 18446744073709551616 * (h + r + t) = y * m + x + cy := by omega
  refine ⟨by simpa using hml, hmd.set _ bl, fun j hj => ?_, ⟨by omega, by omega⟩, ?_⟩
  · rw [getD_set_ne (by omega)]; exact hsame j (by omega)
  · have f1 : vs 18446744073709551616 (fun i => (M.set (o + k) z).getD (o + i) 0) k = vs 18446744073709551616 (fun i => M.getD (o + i) 0) k :=
      vs_congr (fun i hi => getD_set_ne (by omega))
    have f2 : (M.set (o + k) z).getD (o + k) 0 = z := getD_set_self (by omega)
    have f3 := hsame (o + k) (by omega)
    simp only [vs]
    rw [f1, f2, ← f3, ← hx, ← hy, Int.pow_succ, Int.mul_assoc, Int.mul_add m]
    generalize (18446744073709551616 : Int) ^ k = P at hv ⊢
    have e6 : P * z + P * (18446744073709551616 * (h + r + t)) = P * (y * m) + P * x + P * cy := by rw [← Int.mul_add, et, Int.mul_add, Int.mul_add]
    have e7 : m * (P * y) = P * (y * m) := by rw [Int.mul_left_comm, Int.mul_comm m y]
    omega

set_option maxHeartbeats 800000 in
theorem addTimes_any (s : Option Addr) (g o np c : Nat) (L : List Int) (b : Option Addr) (n cb : Nat) (ys : List Int) (m : Int) (w : World) (hs : 0 < n → s = some ⟨g, o, none⟩) (hm : 0 ≤ m ∧ m < 18446744073709551616)
    (hblk : Blk w g L) (hL : Digs 18446744073709551616 L) (hnp : n ≤ np) (hon : o + n ≤ L.length) (hn : n ≤ 100000) (hy : Nums w b n cb ys) (hap : 0 < n → Apart b g) :
    Calls Tryz.prog 114 #[.slice s np c, .slice b n cb, .int .u64 m] w fun e w' => ∃ M cy, e = .returned (.int .u64 cy) ∧ Blk w' g M ∧ Digs 18446744073709551616 M ∧ M.length = L.length ∧
      (∀ j, j < o ∨ o + n ≤ j → M.getD j 0 = L.getD j 0) ∧ (0 ≤ cy ∧ cy < 18446744073709551616) ∧
      vs 18446744073709551616 (fun i => M.getD (o + i) 0) n + 18446744073709551616 ^ n * cy = vs 18446744073709551616 (fun i => L.getD (o + i) 0) n + m * vs 18446744073709551616 (fun i => ys.getD i 0) n ∧
      w.grownBy w' (some g) := by
  have hyd := hy.digs
  go_enter Tryz.func114, Tryz.ntmps114
  go_wp2
  go_loopw [7, 14] (fun cv i wr => ∃ k : Nat, k ≤ n ∧ i = .int .i64 k ∧ ∃ M cy, cv = .int .u64 cy ∧ Blk wr g M ∧ M.length = L.length ∧ Digs 18446744073709551616 M ∧
      (∀ j, j < o ∨ o + k ≤ j → M.getD j 0 = L.getD j 0) ∧ (0 ≤ cy ∧ cy < 18446744073709551616) ∧
      vs 18446744073709551616 (fun i => M.getD (o + i) 0) k + 18446744073709551616 ^ k * cy = vs 18446744073709551616 (fun i => L.getD (o + i) 0) k + m * vs 18446744073709551616 (fun i => ys.getD i 0) k ∧
      w.grownBy wr (some g)) (fun _ i _ => n - (intOf i).toNat)
  case atStart => exact ⟨0, Nat.zero_le _, rfl, L, 0, rfl, hblk, rfl, hL, fun _ _ => rfl, by omega, by simp [vs], World.grownBy.refl _ _⟩
  case round =>
    obtain ⟨k, hk, rfl, M, cy, rfl, hbM, hml, hmd, hsame, hcy, hv, hgr⟩ := hrel
    by_cases hlt : k < n
    · obtain rfl := hs (by omega)
      obtain ⟨x, hx⟩ : ∃ x, x = M.getD (o + k) 0 := ⟨_, rfl⟩
      obtain ⟨y, hy'⟩ : ∃ y, y = ys.getD k 0 := ⟨_, rfl⟩
      have hc1 : wr.cell? ⟨g, o + k, none⟩ = some (.int .u64 x) := by rw [hx]; exact hbM.cell (by omega)
      have hf1 : wr.frozen? ⟨g, o + k, none⟩ = false := hbM.frozen _
      have hyn := hy.grown hgr hap
      obtain ⟨b2, o2, rfl, hc⟩ := hyn.cells (by omega)
      have hc2 : wr.cell? ⟨b2, o2 + k, none⟩ = some (.int .u64 y) := by rw [hy']; exact hc k hlt
      have bx : 0 ≤ x ∧ x < 18446744073709551616 := by rw [hx]; exact hmd.getD (by decide) _
      have by' : 0 ≤ y ∧ y < 18446744073709551616 := by rw [hy']; exact hyd.getD (by decide) _
      have hki : (k : Int) < (n : Int) := by omega
      have hkp : (k : Int) < (np : Int) := by omega
      have bhi := hi_mul_bd by' hm
      have blo := lo_bd (y * m)
      have elh := lo_hi (y * m)
      obtain ⟨h, hh⟩ : ∃ h, h = hi (y * m) := ⟨_, rfl⟩
      obtain ⟨l, hll⟩ : ∃ l, l = lo (y * m) := ⟨_, rfl⟩
      have HMul : Hid (∀ wx, Calls Tryz.prog 120 #[.int .u64 y, .int .u64 m] wx fun e w' => e = .returned (.tuple #[.int .u64 h, .int .u64 l]) ∧ w' = wx) := fun wx => by rw [hh, hll]; exact mul64_any y m by' hm wx
      rw [← hh] at bhi elh
      rw [← hll] at blo elh
      have b1 : 0 ≤ h ∧ h ≤ 18446744073709551614 := ⟨bhi.1, bhi.2.1⟩
      have e2 := lo_hi (l + x)
      have bs := lo_bd (l + x)
      have br : 0 ≤ hi (l + x) ∧ hi (l + x) ≤ 1 := by unfold hi; omega
      obtain ⟨s1, hs1⟩ : ∃ s1, s1 = lo (l + x) := ⟨_, rfl⟩
      obtain ⟨r, hr⟩ : ∃ r, r = hi (l + x) := ⟨_, rfl⟩
      have A1 : ∀ wx, (callFunc 117 #[.int .u64 l, .int .u64 x, .int .u64 0]).run Tryz.prog wx = .ok (.value (.tuple #[.int .u64 s1, .int .u64 r])) wx := fun wx => by rw [hs1, hr]; exact add64z l x blo.1 bx.1 wx
      rw [← hs1] at e2 bs
      rw [← hr] at e2 br
      obtain ⟨t, ht⟩ : ∃ t, t = hi (s1 + cy) := ⟨_, rfl⟩
      have A2 : ∀ wx, (callFunc 117 #[.int .u64 s1, .int .u64 cy, .int .u64 0]).run Tryz.prog wx = .ok (.value (.tuple #[.int .u64 (lo (s1 + cy)), .int .u64 t])) wx := fun wx => by rw [ht]; exact add64z s1 cy bs.1 hcy.1 wx
      have R := at_step hlt hon hml hmd hyd hm hsame hcy hv hx hy' elh e2 ht.symm bs b1.1 br.1
      have HR := (show Hid _ from R)
      have bt : 0 ≤ t ∧ h + r + t < 18446744073709551616 := ⟨by rw [ht]; unfold hi; omega, R.2.2.2.1.2⟩
      have HB := (show Hid _ from hbM.set (o + k) (lo (s1 + cy)))
      have HG := (show Hid _ from grown_trans hgr (grown_set wr g (o + k) (.int .u64 (lo (s1 + cy)))))
      clear hx hy' hml hmd hsame hv R hbM hL hon hyd hblk hgr hc hh hll hs1 hr ht elh e2 bhi hyn
      go_wp2_with fail
      refine (HMul.out _).mono ?_
      rintro e w' ⟨rfl, rfl⟩
      go_wp2
      go_roundw
      case rel => exact ⟨k + 1, by omega, by go_num, _, _, rfl, HB.out, HR.out.1, HR.out.2.1, HR.out.2.2.1, HR.out.2.2.2.1, HR.out.2.2.2.2, HG.out⟩
      case measure => simp [intOf]; omega
    · obtain rfl : k = n := by omega
      go_wp2
      go_ret
      exact ⟨M, cy, rfl, hbM, hmd, hml, hsame, hcy, hv, hgr⟩
end Go.Proofs.YtchmlfjjgehbkaaGreat

namespace Go.Proofs.YtchmlfjjgehbkaaGreat
open Go.RowKit

theorem long_step {M N xs ys : List Int} {i n : Nat} {x cy : Int} (hN : N.length = n) (hi : i < xs.length) (hlt : i + ys.length < n) (hx : x = xs.getD i 0) (hz : M.getD (i + ys.length) 0 = 0)
    (hs : ∀ j, j < i ∨ i + ys.length ≤ j → N.getD j 0 = M.getD j 0) (hM : vs 18446744073709551616 (fun j => M.getD j 0) n = val 18446744073709551616 (xs.take i) * val 18446744073709551616 ys)
    (hv : vs 18446744073709551616 (fun t => N.getD (i + t) 0) ys.length + 18446744073709551616 ^ ys.length * cy = vs 18446744073709551616 (fun t => M.getD (i + t) 0) ys.length + x * vs 18446744073709551616 (fun t => ys.getD t 0) ys.length) :
    vs 18446744073709551616 (fun j => (N.set (i + ys.length) cy).getD j 0) n = val 18446744073709551616 (xs.take (i + 1)) * val 18446744073709551616 ys := by
  rw [vs_set hlt (by omega), hs (i + ys.length) (by omega), hz, vs_seg (o := i) (m := ys.length) (by omega) hs, hM, val_take_succ _ _ _ hi, ← hx, Int.add_mul, Int.mul_assoc, Int.sub_zero, Int.pow_add]
  rw [vs_all _ ys (Nat.le_refl _)] at hv
  have e : vs 18446744073709551616 (fun t => N.getD (i + t) 0) ys.length - vs 18446744073709551616 (fun t => M.getD (i + t) 0) ys.length + 18446744073709551616 ^ ys.length * cy = x * val 18446744073709551616 ys := by omega
  rw [← e, Int.mul_add, Int.mul_assoc]
  omega

set_option maxHeartbeats 1600000 in
theorem longhand_any (a b : Option Addr) (la ca lb cb : Nat) (xs ys : List Int) (w : World) (h : Nums w a la ca xs) (h' : Nums w b lb cb ys) (hla : la ≤ 10000) (hlb : lb ≤ 10000) :
    Calls Tryz.prog 101 #[.slice a la ca, .slice b lb cb] w fun e w' => ∃ L g n, e = .returned (.slice (some ⟨g, 0, none⟩) n n) ∧ L.length = n ∧ n = la + lb ∧ w.heap.size ≤ g ∧
      Blk w' g L ∧ Digs 18446744073709551616 L ∧ val 18446744073709551616 L = val 18446744073709551616 xs * val 18446744073709551616 ys ∧ Below w.heap.size w w' := by
  have HL : Hid (xs.length = la ∧ ys.length = lb) := ⟨h.hlen, h'.hlen⟩
  have hd := h.digs
  have hd' := h'.digs
  have hapb : 0 < lb → Apart b w.heap.size := fun hp x hx => by
    obtain ⟨b1, o1, rfl, hc⟩ := h'.cells hp
    have := World.block_lt_of_cell? w _ (hc 0 hp)
    cases hx
    simp at this ⊢; omega
  go_enter Tryz.func101, Tryz.ntmps101
  go_wp2_with (at_make; refine wpList_mk _ rfl _ _ 26 rfl Tryz.underlying26 .i64 .i64 _ _ (la + lb) rfl rfl (by omega) (by omega) (by omega) ?_)
  intro w1 hb1 hbel hsz
  have hz0 : vs 18446744073709551616 (fun j => (noughts (la + lb)).getD j 0) (la + lb) = val 18446744073709551616 (xs.take 0) * val 18446744073709551616 ys := by
    rw [vs_zero _ (fun i hi => by simp [noughts, List.getD, hi])]; simp [val]
  have HN : Hid (vs 18446744073709551616 (fun j => (noughts (la + lb)).getD j 0) (la + lb) = val 18446744073709551616 (xs.take 0) * val 18446744073709551616 ys ∧ (noughts (la + lb)).length = la + lb ∧ Digs 18446744073709551616 (noughts (la + lb)) ∧ ∀ j, (noughts (la + lb)).getD j 0 = 0) :=
    ⟨hz0, length_noughts _, fun x hx => by rw [(List.mem_replicate.1 hx).2]; omega, fun j => by simp only [noughts, List.getD, List.getElem?_replicate]; split <;> rfl⟩
  clear hz0
  go_wp2
  go_loopw [15] (fun iv wr => ∃ i : Nat, i ≤ la ∧ iv = .int .i64 i ∧ ∃ M, Blk wr w.heap.size M ∧ M.length = la + lb ∧ Digs 18446744073709551616 M ∧ (∀ j, i + lb ≤ j → M.getD j 0 = 0) ∧
      vs 18446744073709551616 (fun j => M.getD j 0) (la + lb) = val 18446744073709551616 (xs.take i) * val 18446744073709551616 ys ∧ Below w.heap.size w wr) (fun iv _ => la - (intOf iv).toNat)
  case atStart => exact ⟨0, Nat.zero_le _, rfl, _, hb1, HN.out.2.1, HN.out.2.2.1, fun j _ => HN.out.2.2.2 j, HN.out.1, hbel⟩
  case round =>
    obtain ⟨i, hi, rfl, M, hbM, hMl, hMd, hMz, hMv, hb⟩ := hrel
    have HM : Hid (M.length = la + lb ∧ Digs 18446744073709551616 M ∧ (∀ j, i + lb ≤ j → M.getD j 0 = 0) ∧ vs 18446744073709551616 (fun j => M.getD j 0) (la + lb) = val 18446744073709551616 (xs.take i) * val 18446744073709551616 ys) := ⟨hMl, hMd, hMz, hMv⟩
    clear hMl hMd hMz hMv
    by_cases hlt : i < la
    · have hlti : (i : Int) < (la : Int) := by omega
      have hil : (i : Int) + (lb : Int) < (la : Int) + (lb : Int) := by omega
      obtain ⟨b1, o1, rfl, hc⟩ := (h.below hb).cells (by omega)
      obtain ⟨x, hx⟩ : ∃ x, x = xs.getD i 0 := ⟨_, rfl⟩
      have c1 : wr.cell? ⟨b1, o1 + i, none⟩ = some (.int .u64 x) := by rw [hx]; exact hc i hlt
      have bx : 0 ≤ x ∧ x < 18446744073709551616 := by rw [hx]; exact hd.getD (by decide) _
      have HX : Hid (x = xs.getD i 0) := hx
      have hy2 := h'.below hb
      clear hx hc
      have HA : Hid (∀ wx, Blk wx w.heap.size M → Nums wx b lb cb ys → Below w.heap.size w wx → Calls Tryz.prog 114 #[.slice (some ⟨w.heap.size, i, none⟩) (la + lb - i) (la + lb - i), .slice b lb cb, .int .u64 x] wx fun e w' => ∃ N cy, e = .returned (.int .u64 cy) ∧ (0 ≤ cy ∧ cy < 18446744073709551616) ∧
          Blk w' w.heap.size N ∧ N.length = la + lb ∧ Digs 18446744073709551616 (N.set (i + lb) cy) ∧ (∀ j, i + 1 + lb ≤ j → (N.set (i + lb) cy).getD j 0 = 0) ∧
          vs 18446744073709551616 (fun j => (N.set (i + lb) cy).getD j 0) (la + lb) = val 18446744073709551616 (xs.take (i + 1)) * val 18446744073709551616 ys ∧ Below w.heap.size w w' ∧ w'.frozen? ⟨w.heap.size, i + lb, none⟩ = false ∧ ∃ v, w'.cell? ⟨w.heap.size, i + lb, none⟩ = some v) := by
        intro wx hbx hyx hbw
        refine (addTimes_any (some ⟨w.heap.size, i, none⟩) w.heap.size i (la + lb - i) (la + lb - i) M b lb cb ys x wx (fun _ => rfl) bx hbx HM.out.2.1 (by omega) (by have := HM.out.1; omega) (by omega) hyx hapb).mono ?_
        rintro e w' ⟨N, cy, rfl, hbN, hNd, hNl, hNs, hcy, hv, hg⟩
        have hNl' : N.length = la + lb := hNl.trans HM.out.1
        refine ⟨N, cy, rfl, hcy, hbN, hNl', hNd.set _ hcy, fun j hj => ?_, ?_, hbw.trans (below_of_grown hg (Nat.le_refl _) hbw.size), hbN.frozen _, _, hbN.cell (by omega)⟩
        · rw [getD_set_ne (by omega), hNs j (by omega)]; exact HM.out.2.2.1 j (by omega)
        · have hl2 := HL.out.2
          have := long_step (M := M) (N := N) (xs := xs) (ys := ys) (i := i) (n := la + lb) (x := x) (cy := cy) hNl' (by have := HL.out.1; omega) (by omega) HX.out (by rw [hl2]; exact HM.out.2.2.1 _ (by omega)) (by rw [hl2]; exact hNs) HM.out.2.2.2 (by rw [hl2]; exact hv)
          rw [hl2] at this
          exact this
      have hne : ¬ la + lb = i := by omega
      go_wp2_with fail
      go_region_with (go_at_call 114; refine (HA.out _ ?_ ?_ ?_).mono ?_; (exact hbM); (exact ⟨hy2.hlen, hy2.hcap, hy2.hmax, hy2.cells, hy2.word⟩); (exact ⟨hb.os, hb.tape, hb.output, hb.size, hb.block⟩); rintro e w2 ⟨N, cy, rfl, hcy, hbN, hNl, hNd, hNz, hNv, hbw, hfz, v0, hcv⟩)
      all_goals
        have HB := (show Hid _ from hbN.set (i + lb) cy)
        have HG : Hid (Below w.heap.size w (w2.setCell ⟨w.heap.size, i + lb, none⟩ (.int .u64 cy))) := hbw.setCell (Nat.le_refl _) _
        have HP : Hid (N.length = la + lb ∧ Digs 18446744073709551616 (N.set (i + lb) cy) ∧ (∀ j, i + 1 + lb ≤ j → (N.set (i + lb) cy).getD j 0 = 0) ∧ vs 18446744073709551616 (fun j => (N.set (i + lb) cy).getD j 0) (la + lb) = val 18446744073709551616 (xs.take (i + 1)) * val 18446744073709551616 ys) := ⟨hNl, hNd, hNz, hNv⟩
        clear hbN hbw hNl hNd hNz hNv hb hbM hy2 c1
        go_wp2
        go_roundw
        case rel => exact ⟨i + 1, by omega, by go_num, _, HB.out, by simpa using HP.out.1, HP.out.2.1, HP.out.2.2.1, HP.out.2.2.2, ⟨HG.out.os, HG.out.tape, HG.out.output, HG.out.size, HG.out.block⟩⟩
        case measure => simp [intOf]; omega
    · obtain rfl : i = la := by omega
      have hfin : val 18446744073709551616 M = val 18446744073709551616 xs * val 18446744073709551616 ys := by
        have := HM.out.2.2.2
        rw [vs_all _ M (by have := HM.out.1; omega), List.take_of_length_le (by have := HL.out; omega)] at this
        exact this
      have HF : Hid (val 18446744073709551616 M = val 18446744073709551616 xs * val 18446744073709551616 ys) := hfin
      clear hfin
      go_wp2
      go_ret
      exact ⟨M, _, _, rfl, HM.out.1, rfl, Nat.le_refl _, hbM, HM.out.2.1, HF.out, hb⟩
end Go.Proofs.YtchmlfjjgehbkaaGreat

namespace Go.Proofs.YtchmlfjjgehbkaaGreat
open Go.RowKit

theorem Nums.drop {w : World} {b off len cap : Nat} {zs : List Int} (h : Nums w (some ⟨b, off, none⟩) len cap zs) {k : Nat} (hk : k ≤ len) {a' : Option Addr} {cap' : Nat} (hc' : len - k ≤ cap') (hm : cap' ≤ maxLen) (ha : k < len → a' = some ⟨b, off + k, none⟩) :
    Nums w a' (len - k) cap' (zs.drop k) := by
  have hl := h.hlen
  refine ⟨by simp; omega, hc', hm, fun hp => ⟨b, off + k, ha (by omega), fun i hi => ?_⟩, fun x hx => h.word x (List.mem_of_mem_drop hx)⟩
  obtain ⟨b1, o1, e, hc⟩ := h.cells (by omega)
  simp only [Option.some.injEq, Addr.mk.injEq, and_true] at e
  obtain ⟨rfl, rfl⟩ := e
  have := hc (k + i) (by omega)
  rw [← Nat.add_assoc] at this
  rw [this]
  simp [List.getD]

theorem below_draw (w : World) (n : Nat) : Below w.heap.size w (w.drewN n) := below_drewN (Below.refl _ _) n

set_option maxHeartbeats 400000 in
theorem parted_any (a : Option Addr) (len cap k : Nat) (xs : List Int) (w : World) (h : Nums w a len cap xs) (hp : 0 < len) (hn : len ≤ 10000) (hk : k ≤ 10000) :
    Calls Tryz.prog 102 #[.slice a len cap, .int .i64 (k : Int)] w fun e w' => ∃ a1 c1 a2 c2 k1 k2, e = .returned (.tuple #[.slice a1 k1 c1, .slice a2 k2 c2]) ∧ k1 = Nat.min k len ∧ k2 = len - Nat.min k len ∧
      Nums w' a1 k1 c1 (xs.take k) ∧ Nums w' a2 k2 c2 (xs.drop k) ∧ Below w.heap.size w w' := by
  have hl := h.hlen
  have hcp := h.hcap
  have hm := h.hmax
  have hmm := hm
  unfold maxLen at hm
  obtain ⟨b, off, rfl, hc⟩ := h.cells hp
  have hlc : (len : Int) ≤ (cap : Int) := by omega
  by_cases hlt : k < len
  · have hlti : (k : Int) < (len : Int) := by omega
    have hki : (k : Int) ≤ (cap : Int) := by omega
    have hne : ¬ cap = k := by omega
    have hmin : Nat.min k len = k := Nat.min_eq_left (Nat.le_of_lt hlt)
    have HM : Hid (Nat.min k len = k) := hmin
    clear hmin
    go_enter Tryz.func102, Tryz.ntmps102
    go_wp2
    go_quiet (fail)
    go_wp2
    go_ret2
    have hb := below_draw w nq
    exact ⟨_, _, _, _, _, _, rfl, HM.out.symm, by rw [HM.out], (h.take (by omega)).below hb, (h.drop (by omega) (by omega) (by omega) (fun _ => rfl)).below hb, hb⟩
  · have hN := h
    have hmin : Nat.min k len = len := Nat.min_eq_right (by omega)
    have HM : Hid (Nat.min k len = len) := hmin
    clear hmin h
    have ht : Hid (xs.take k = xs ∧ xs.drop k = []) := ⟨List.take_of_length_le (by omega), List.drop_eq_nil_of_le (by omega)⟩
    by_cases hkl : len < k
    · have hkli : (len : Int) < (k : Int) := by omega
      by_cases hce : cap = len
      · subst hce
        go_enter Tryz.func102, Tryz.ntmps102
        go_wp2
        go_quiet (fail)
        go_wp2
        go_ret2
        have hb := below_draw w nq
        refine ⟨_, _, _, _, _, _, rfl, HM.out.symm, by rw [HM.out]; omega, ?_, ?_, hb⟩
        · rw [ht.out.1]; exact hN.below hb
        · rw [ht.out.2]; exact ⟨rfl, Nat.zero_le _, Nat.zero_le _, fun h => absurd h (Nat.lt_irrefl _), fun x hx => by cases hx⟩
      · skip
        go_enter Tryz.func102, Tryz.ntmps102
        go_wp2
        go_quiet (fail)
        go_wp2
        go_ret2
        have hb := below_draw w nq
        refine ⟨_, _, _, _, _, _, rfl, HM.out.symm, by rw [HM.out]; omega, ?_, ?_, hb⟩
        · rw [ht.out.1]; exact hN.below hb
        · rw [ht.out.2]; exact ⟨rfl, Nat.zero_le _, by omega, fun h => absurd h (Nat.lt_irrefl _), fun x hx => by cases hx⟩
    · obtain rfl : k = len := by omega
      by_cases hce : cap = k
      · subst hce
        go_enter Tryz.func102, Tryz.ntmps102
        go_wp2
        go_quiet (fail)
        go_wp2
        go_ret2
        have hb := below_draw w nq
        refine ⟨_, _, _, _, _, _, rfl, HM.out.symm, by rw [HM.out]; omega, ?_, ?_, hb⟩
        · rw [ht.out.1]; exact hN.below hb
        · rw [ht.out.2]; exact ⟨rfl, Nat.zero_le _, Nat.zero_le _, fun h => absurd h (Nat.lt_irrefl _), fun x hx => by cases hx⟩
      · skip
        go_enter Tryz.func102, Tryz.ntmps102
        go_wp2
        go_quiet (fail)
        go_wp2
        go_ret2
        have hb := below_draw w nq
        refine ⟨_, _, _, _, _, _, rfl, HM.out.symm, by rw [HM.out]; omega, ?_, ?_, hb⟩
        · rw [ht.out.1]; exact hN.below hb
        · rw [ht.out.2]; exact ⟨rfl, Nat.zero_le _, by omega, fun h => absurd h (Nat.lt_irrefl _), fun x hx => by cases hx⟩
end Go.Proofs.YtchmlfjjgehbkaaGreat

namespace Go.Proofs.YtchmlfjjgehbkaaGreat
open Go.RowKit

theorem sub64 (x y b : Int) (hx : 0 ≤ x) (hy : 0 ≤ y) (hy' : y < 18446744073709551616) (hb0 : 0 ≤ b) (hb : b ≤ 1) (w : World) : (callFunc 115 #[.int .u64 x, .int .u64 y, .int .u64 b]).run Tryz.prog w =
    .ok (.value (.tuple #[.int .u64 (lo (x - y - b)), .int .u64 (bor x y b)])) w := by
  obtain ⟨x, rfl⟩ := Int.eq_ofNat_of_zero_le hx
  obtain ⟨y, rfl⟩ := Int.eq_ofNat_of_zero_le hy
  obtain ⟨b, rfl⟩ := Int.eq_ofNat_of_zero_le hb0
  have e1 : (((x + 18446744073709551616 - y - b) % 18446744073709551616 : Nat) : Int) = lo ((x : Int) - y - b) := by unfold lo; omega
  have e2 : ((if x < y + b then 1 else 0 : Nat) : Int) = bor x y b := by unfold bor; split <;> split <;> omega
  rw [← e1, ← e2, run_callFunc_extern Tryz.func115 (by kernel_rfl) (by kernel_rfl) (by kernel_rfl) (e := sub64Entry) (by kernel_rfl), run_sub64 x y b (by omega)]
  rfl

theorem take_step {L M : List Int} {o n k : Nat} {ys : List Int} {bw : Int} (hk : k < n) (hon : o + n ≤ L.length) (hml : M.length = L.length) (hmd : Digs 18446744073709551616 M) (hyd : Digs 18446744073709551616 ys)
    (hsame : ∀ j, j < o ∨ o + k ≤ j → M.getD j 0 = L.getD j 0) (hb : 0 ≤ bw ∧ bw ≤ 1)
    (hv : vs 18446744073709551616 (fun i => M.getD (o + i) 0) k - 18446744073709551616 ^ k * bw = vs 18446744073709551616 (fun i => L.getD (o + i) 0) k - vs 18446744073709551616 (fun i => ys.getD i 0) k)
    (x y : Int) (hx : x = M.getD (o + k) 0) (hy : y = ys.getD k 0) :
    (M.set (o + k) (lo (x - y - bw))).length = L.length ∧ Digs 18446744073709551616 (M.set (o + k) (lo (x - y - bw))) ∧
    (∀ j, j < o ∨ o + (k + 1) ≤ j → (M.set (o + k) (lo (x - y - bw))).getD j 0 = L.getD j 0) ∧ (0 ≤ bor x y bw ∧ bor x y bw ≤ 1) ∧
    vs 18446744073709551616 (fun i => (M.set (o + k) (lo (x - y - bw))).getD (o + i) 0) (k + 1) - 18446744073709551616 ^ (k + 1) * bor x y bw = vs 18446744073709551616 (fun i => L.getD (o + i) 0) (k + 1) - vs 18446744073709551616 (fun i => ys.getD i 0) (k + 1) := by
  have bx : 0 ≤ x ∧ x < 18446744073709551616 := by rw [hx]; exact hmd.getD (by decide) _
  have by' : 0 ≤ y ∧ y < 18446744073709551616 := by rw [hy]; exact hyd.getD (by decide) _
  refine ⟨by simpa using hml, hmd.set _ (lo_bd _), fun j hj => ?_, bor_bd _ _ _, ?_⟩
  · rw [getD_set_ne (by omega)]; exact hsame j (by omega)
  · have e1 : vs 18446744073709551616 (fun i => (M.set (o + k) (lo (x - y - bw))).getD (o + i) 0) k = vs 18446744073709551616 (fun i => M.getD (o + i) 0) k :=
      vs_congr (fun i hi => getD_set_ne (by omega))
    have e2 : (M.set (o + k) (lo (x - y - bw))).getD (o + k) 0 = lo (x - y - bw) := getD_set_self (by omega)
    have e3 := hsame (o + k) (by omega)
    simp only [vs]
    rw [e1, e2, ← e3, ← hx, ← hy]
    generalize hP : (18446744073709551616 : Int) ^ k = P at hv ⊢
    have e4 : (18446744073709551616 : Int) ^ (k + 1) = P * 18446744073709551616 := by rw [Int.pow_succ, hP]
    rw [e4, Int.mul_assoc]
    have e5 := lo_bor bx by' hb
    have e6 : P * lo (x - y - bw) - P * (18446744073709551616 * bor x y bw) = P * (x - y - bw) := by rw [← Int.mul_sub, e5]
    rw [Int.mul_sub, Int.mul_sub] at e6
    omega

set_option maxRecDepth 100000 in
set_option maxHeartbeats 800000 in
theorem takeFrom_any (s : Option Addr) (g o n c : Nat) (L : List Int) (b : Option Addr) (lb cb : Nat) (ys : List Int) (w : World) (hs : 0 < n → s = some ⟨g, o, none⟩)
    (hblk : 0 < n → Blk w g L) (hL : Digs 18446744073709551616 L) (hon : o + n ≤ L.length) (hn : n ≤ 100000) (hy : Nums w b lb cb ys) (hap : 0 < lb → Apart b g) :
    Calls Tryz.prog 104 #[.slice s n c, .slice b lb cb] w fun e w' => ∃ M bw, e = .returned (.tuple #[]) ∧ (0 < n → Blk w' g M) ∧ Digs 18446744073709551616 M ∧ M.length = L.length ∧
      (∀ j, j < o ∨ o + n ≤ j → M.getD j 0 = L.getD j 0) ∧ (0 ≤ bw ∧ bw ≤ 1) ∧
      vs 18446744073709551616 (fun i => M.getD (o + i) 0) n - 18446744073709551616 ^ n * bw = vs 18446744073709551616 (fun i => L.getD (o + i) 0) n - vs 18446744073709551616 (fun i => ys.getD i 0) n ∧
      w.grownBy w' (some g) := by
  have hyd := hy.digs
  go_enter Tryz.func104, Tryz.ntmps104
  go_wp2
  go_loopw [4, 8] (fun cv i wr => ∃ k : Nat, k ≤ n ∧ i = .int .i64 k ∧ ∃ M bw, cv = .int .u64 bw ∧ (0 < n → Blk wr g M) ∧ M.length = L.length ∧ Digs 18446744073709551616 M ∧
      (∀ j, j < o ∨ o + k ≤ j → M.getD j 0 = L.getD j 0) ∧ (0 ≤ bw ∧ bw ≤ 1) ∧
      vs 18446744073709551616 (fun i => M.getD (o + i) 0) k - 18446744073709551616 ^ k * bw = vs 18446744073709551616 (fun i => L.getD (o + i) 0) k - vs 18446744073709551616 (fun i => ys.getD i 0) k ∧
      w.grownBy wr (some g)) (fun _ i _ => n - (intOf i).toNat)
  case atStart => exact ⟨0, Nat.zero_le _, rfl, L, 0, rfl, hblk, rfl, hL, fun _ _ => rfl, by omega, by simp [vs], World.grownBy.refl _ _⟩
  case round =>
    obtain ⟨k, hk, rfl, M, bw, rfl, hbM', hml, hmd, hsame, hcy, hv, hgr⟩ := hrel
    by_cases hlt : k < n
    · have hbM := hbM' (by omega)
      obtain rfl := hs (by omega)
      obtain ⟨x, hx⟩ : ∃ x, x = M.getD (o + k) 0 := ⟨_, rfl⟩
      obtain ⟨y, hy'⟩ : ∃ y, y = ys.getD k 0 := ⟨_, rfl⟩
      have hc1 : wr.cell? ⟨g, o + k, none⟩ = some (.int .u64 x) := by rw [hx]; exact hbM.cell (by omega)
      have hf1 : wr.frozen? ⟨g, o + k, none⟩ = false := hbM.frozen _
      have R := take_step hlt hon hml hmd hyd hsame hcy hv x y hx hy'
      have HR := (show Hid _ from R)
      have hyn := hy.grown hgr hap
      have hlz : limbZ ys (k : Int) = y := by rw [limbZ_nat, hy']
      have bx : 0 ≤ x ∧ x < 18446744073709551616 := by rw [hx]; exact hmd.getD (by decide) _
      have by' : 0 ≤ y ∧ y < 18446744073709551616 := by rw [hy']; exact hyd.getD (by decide) _
      have hki : (k : Int) < (n : Int) := by omega
      have HB := (show Hid _ from hbM.set (o + k) (lo (x - y - bw)))
      have HG := (show Hid _ from grown_trans hgr (grown_set wr g (o + k) (.int .u64 (lo (x - y - bw)))))
      clear hx hy' hml hmd hsame hv R hbM hbM' hL hon hyd hblk hgr
      go_wp2_with fail
      go_region_with (first | (go_at_call 116; refine (limb_any b lb cb ys (k : Int) _ ?_).mono ?_; (exact ⟨hyn.hlen, hyn.hcap, hyn.hmax, hyn.cells, hyn.word⟩); rintro e w' ⟨rfl, rfl⟩; rw [hlz]) | simp only [sub64 x y bw bx.1 by'.1 by'.2 hcy.1 hcy.2])
      all_goals
        go_wp2
        go_roundw
        case rel => exact ⟨k + 1, by omega, by go_num, _, _, rfl, fun _ => HB.out, HR.out.1, HR.out.2.1, HR.out.2.2.1, HR.out.2.2.2.1, HR.out.2.2.2.2, grown_trans HG.out ⟨rfl, rfl, rfl, Nat.le_refl _, fun _ _ _ => rfl⟩⟩
        case measure => simp [intOf]; omega
    · obtain rfl : k = n := by omega
      go_wp2
      go_end0
      exact ⟨M, bw, rfl, hbM', hmd, hml, hsame, hcy, hv, hgr⟩
end Go.Proofs.YtchmlfjjgehbkaaGreat

namespace Go.Proofs.YtchmlfjjgehbkaaGreat
open Go.RowKit

theorem kara (xl xh yl yh H : Int) : (xl + H * xh) * (yl + H * yh) = xl * yl + H * ((xl + xh) * (yl + yh) - xl * yl - xh * yh) + H * (H * (xh * yh)) := by
  have e1 : (xl + xh) * (yl + yh) - xl * yl - xh * yh = xl * yh + xh * yl := by rw [Int.add_mul, Int.mul_add, Int.mul_add]; omega
  rw [e1, Int.add_mul, Int.mul_add, Int.mul_add, Int.mul_add]
  have f1 : xl * (H * yh) = H * (xl * yh) := Int.mul_left_comm ..
  have f2 : H * xh * yl = H * (xh * yl) := Int.mul_assoc ..
  have f3 : H * xh * (H * yh) = H * (H * (xh * yh)) := by rw [Int.mul_assoc, Int.mul_left_comm xh]
  omega

theorem val_split' (B : Int) (zs : List Int) (k : Nat) : val B zs = val B (zs.take k) + B ^ k * val B (zs.drop k) := by
  by_cases h : k ≤ zs.length
  · exact val_split B zs k h
  · rw [List.take_of_length_le (by omega), List.drop_eq_nil_of_le (by omega)]; simp [val]

theorem val_trunc {B : Int} (hB : 0 < B) {D : List Int} (hD : Digs B D) {n : Nat} (h : val B D < B ^ n) : vs B (fun i => D.getD i 0) n = val B D := by
  rw [vs_val]
  have e := val_split' B D n
  have h1 := val_nonneg hB (hD.take n)
  have h2 := val_nonneg hB (hD.drop n)
  have h3 := pow_pos' hB n
  by_cases h0 : val B (D.drop n) = 0
  · rw [h0] at e; omega
  · have h4 : B ^ n * 1 ≤ B ^ n * val B (D.drop n) := Int.mul_le_mul_of_nonneg_left (by omega) (by omega)
    omega

theorem take_end {B : Int} (hB : 0 < B) {L M ys : List Int} {n : Nat} {bw : Int} (hM : Digs B M) (hLl : L.length = n) (hMl : M.length = L.length) (hy : ys.length ≤ n) (hge : val B ys ≤ val B L) (hbw : 0 ≤ bw ∧ bw ≤ 1)
    (hv : vs B (fun i => M.getD (0 + i) 0) n - B ^ n * bw = vs B (fun i => L.getD (0 + i) 0) n - vs B (fun i => ys.getD i 0) n) : val B M = val B L - val B ys := by
  simp only [Nat.zero_add] at hv
  rw [vs_all _ M (by omega), vs_all _ L (by omega), vs_all _ ys hy] at hv
  have b1 := val_lt hB hM
  rw [hMl, hLl] at b1
  have hc : bw = 0 ∨ bw = 1 := by omega
  rcases hc with rfl | rfl <;> omega

theorem add_end {B : Int} (hB : 0 < B) {L M D : List Int} {o n : Nat} {cy : Int} (hM : Digs B M) (hD : Digs B D) (hLl : L.length = o + n) (hMl : M.length = L.length) (hs : ∀ j, j < o ∨ o + n ≤ j → M.getD j 0 = L.getD j 0) (hcy : 0 ≤ cy ∧ cy ≤ 1)
    (hv : vs B (fun i => M.getD (o + i) 0) n + B ^ n * cy = vs B (fun i => L.getD (o + i) 0) n + vs B (fun i => D.getD i 0) n) (hlt : val B L + B ^ o * val B D < B ^ (o + n)) (hL : 0 ≤ val B L) : val B M = val B L + B ^ o * val B D := by
  have p1 := pow_pos' hB o
  have hDn : val B D < B ^ n := by
    rw [Int.pow_add] at hlt
    by_cases h : val B D < B ^ n
    · exact h
    · have : B ^ o * B ^ n ≤ B ^ o * val B D := Int.mul_le_mul_of_nonneg_left (by omega) (by omega)
      omega
  rw [val_trunc hB hD hDn] at hv
  have e := vs_seg (B := B) (N := M) (M := L) (n := o + n) (Nat.le_refl _) hs
  rw [vs_all _ M (by omega), vs_all _ L (by omega)] at e
  have e2 : vs B (fun i => M.getD (o + i) 0) n - vs B (fun i => L.getD (o + i) 0) n = val B D - B ^ n * cy := by omega
  rw [e2, Int.mul_sub, ← Int.mul_assoc, ← Int.pow_add] at e
  have b1 := val_nonneg hB hM
  have hc : cy = 0 ∨ cy = 1 := by omega
  rcases hc with rfl | rfl
  · omega
  · omega

theorem mul_nn {a b : Int} (ha : 0 ≤ a) (hb : 0 ≤ b) : 0 ≤ a * b := Int.mul_nonneg ha hb

/-- The closure: its one captured variable lies in block g. -/
def clos (g : Nat) : Value := .func (.func 100) #[] #[.pointer (some ⟨g, 0, none⟩)]

/-- What the closure tells, where its arguments have fewer than N limbs together. -/
def TimesOk (g0 N : Nat) : Prop := ∀ (a b : Option Addr) (la ca lb cb : Nat) (xs ys : List Int) (w : World), la + lb < N → Nums w a la ca xs → Nums w b lb cb ys → la ≤ 1000 → lb ≤ 1000 → w.cell? ⟨g0, 0, none⟩ = some (clos g0) →
    Calls Tryz.prog 100 #[.slice a la ca, .slice b lb cb, .pointer (some ⟨g0, 0, none⟩)] w fun e w' => ∃ L g n, e = .returned (.slice (some ⟨g, 0, none⟩) n n) ∧ L.length = n ∧ n = la + lb ∧ w.heap.size ≤ g ∧
      Blk w' g L ∧ Digs 18446744073709551616 L ∧ val 18446744073709551616 L = val 18446744073709551616 xs * val 18446744073709551616 ys ∧ Below w.heap.size w w'

set_option maxHeartbeats 800000 in
theorem times_small (g0 : Nat) (a b : Option Addr) (la ca lb cb : Nat) (xs ys : List Int) (w : World) (h : Nums w a la ca xs) (h' : Nums w b lb cb ys) (hla : la ≤ 1000) (hlb : lb ≤ 1000) (hsm : la < 12 ∨ lb < 12) :
    Calls Tryz.prog 100 #[.slice a la ca, .slice b lb cb, .pointer (some ⟨g0, 0, none⟩)] w fun e w' => ∃ L g n, e = .returned (.slice (some ⟨g, 0, none⟩) n n) ∧ L.length = n ∧ n = la + lb ∧ w.heap.size ≤ g ∧
      Blk w' g L ∧ Digs 18446744073709551616 L ∧ val 18446744073709551616 L = val 18446744073709551616 xs * val 18446744073709551616 ys ∧ Below w.heap.size w w' := by
  by_cases hlt : lb < la
  · have h12 : (lb : Int) < 12 := by omega
    go_enter Tryz.func100, Tryz.ntmps100
    go_wp2_with fail
    refine (longhand_any _ _ _ _ _ _ _ _ _ h h' (by omega) (by omega)).mono ?_
    rintro e w' ⟨L, g, n, rfl, h1, h2, h3, h4, h5, h6, h7⟩
    have HH := (show Hid _ from And.intro h1 (And.intro h2 h6))
    clear h1 h2 h6
    go_wp2_with fail
    go_ret
    exact ⟨L, g, n, rfl, HH.out.1, HH.out.2.1, h3, h4, h5, HH.out.2.2, h7⟩
  · have h12 : (la : Int) < 12 := by omega
    go_enter Tryz.func100, Tryz.ntmps100
    go_wp2_with fail
    refine (longhand_any _ _ _ _ _ _ _ _ _ h h' (by omega) (by omega)).mono ?_
    rintro e w' ⟨L, g, n, rfl, h1, h2, h3, h4, h5, h6, h7⟩
    have HH := (show Hid _ from And.intro h1 (And.intro h2 h6))
    clear h1 h2 h6
    go_wp2_with fail
    go_ret
    exact ⟨L, g, n, rfl, HH.out.1, HH.out.2.1, h3, h4, h5, HH.out.2.2, h7⟩

set_option maxHeartbeats 1600000 in
theorem times_big (g0 N : Nat) (IH : TimesOk g0 N) (a b : Option Addr) (la ca lb cb : Nat) (xs ys : List Int) (w : World) (hN : la + lb ≤ N) (h : Nums w a la ca xs) (h' : Nums w b lb cb ys) (hla : la ≤ 1000) (hlb : lb ≤ 1000) (h12 : 12 ≤ la) (h12' : 12 ≤ lb) (hcl : w.cell? ⟨g0, 0, none⟩ = some (clos g0)) :
    Calls Tryz.prog 100 #[.slice a la ca, .slice b lb cb, .pointer (some ⟨g0, 0, none⟩)] w fun e w' => ∃ L g n, e = .returned (.slice (some ⟨g, 0, none⟩) n n) ∧ L.length = n ∧ n = la + lb ∧ w.heap.size ≤ g ∧
      Blk w' g L ∧ Digs 18446744073709551616 L ∧ val 18446744073709551616 L = val 18446744073709551616 xs * val 18446744073709551616 ys ∧ Below w.heap.size w w' := by
  have HL : Hid (xs.length = la ∧ ys.length = lb) := ⟨h.hlen, h'.hlen⟩
  obtain ⟨half, hh1, hh2, hh3, hh4⟩ : ∃ half : Nat, half = (Nat.max la lb + 1) / 2 ∧ half ≤ 500 ∧ 6 ≤ half ∧ (2 * half ≤ la + lb - 11 ∧ la ≤ 2 * half ∧ lb ≤ 2 * half) := by
    refine ⟨_, rfl, ?_⟩
    have m1 : la ≤ Nat.max la lb := Nat.le_max_left ..
    have m2 : lb ≤ Nat.max la lb := Nat.le_max_right ..
    have m3 : Nat.max la lb = la ∨ Nat.max la lb = lb := by rcases Nat.le_total la lb with q | q; exact .inr (Nat.max_eq_right q); exact .inl (Nat.max_eq_left q)
    omega
  have HH : Hid (half = (Nat.max la lb + 1) / 2) := hh1
  clear hh1
  go_enter Tryz.func100, Tryz.ntmps100
  go_upto_region 1 with fail
  go_cut [20] (fun bv wx => bv = .bool false ∧ w = wx)
  case first =>
    go_wp2_with fail
    all_goals
      go_meet
      case rel => exact ⟨by simp; omega, rfl⟩
  case rest =>
    obtain ⟨rfl, rfl⟩ := hcut
    go_upto_region 3 with fail
    go_cut [6] (fun hv wx => hv = .int .i64 (half : Int) ∧ w = wx)
    case first =>
      go_wp2_with fail
      all_goals
        go_meet
        case rel => exact ⟨by rw [HH.out]; (first | rw [show Nat.max la lb = lb from Nat.max_eq_right (by omega)] | rw [show Nat.max la lb = la from Nat.max_eq_left (by omega)]); go_num, rfl⟩
    case rest =>
      obtain ⟨rfl, rfl⟩ := hcut
      have hxd := h.digs
      have hyd := h'.digs
      have hcl' : Hid (∀ wx, Below w.heap.size w wx → wx.cell? ⟨g0, 0, none⟩ = some (.func (.func 100) #[] #[.pointer (some ⟨g0, 0, none⟩)])) := fun wx hb => (hb.cell (p := ⟨g0, 0, none⟩) (World.block_lt_of_cell? w _ hcl)).trans hcl
      clear hcl
      have HI : Hid (TimesOk g0 N) := IH
      clear IH
      go_wp2_with fail
      refine (parted_any _ _ _ half _ _ h (by omega) (by omega) (by omega)).mono ?_
      rintro e v1 ⟨xa1, xc1, xa2, xc2, k1, k2, rfl, hk1, hk2, hxl, hxh, hb1⟩
      have hk1' : k1 ≤ half ∧ k1 ≤ la ∧ 6 ≤ k1 ∧ k2 + k1 = la ∧ k2 ≤ half := by
        have q1 : Nat.min half la ≤ half := Nat.min_le_left ..
        have q2 : Nat.min half la ≤ la := Nat.min_le_right ..
        have q3 : Nat.min half la = half ∨ Nat.min half la = la := by rcases Nat.le_total half la with q | q; exact .inl (Nat.min_eq_left q); exact .inr (Nat.min_eq_right q)
        omega
      clear hk1 hk2
      go_wp2_with fail
      refine (parted_any _ _ _ half _ _ (h'.below hb1) (by omega) (by omega) (by omega)).mono ?_
      rintro e v2 ⟨ya1, yc1, ya2, yc2, m1, m2, rfl, hm1, hm2, hyl, hyh, hb2⟩
      have hm1' : m1 ≤ half ∧ m1 ≤ lb ∧ 6 ≤ m1 ∧ m2 + m1 = lb ∧ m2 ≤ half := by
        have q1 : Nat.min half lb ≤ half := Nat.min_le_left ..
        have q2 : Nat.min half lb ≤ lb := Nat.min_le_right ..
        have q3 : Nat.min half lb = half ∨ Nat.min half lb = lb := by rcases Nat.le_total half lb with q | q; exact .inl (Nat.min_eq_left q); exact .inr (Nat.min_eq_right q)
        omega
      clear hm1 hm2
      replace hxl := hxl.below hb2
      replace hxh := hxh.below hb2
      have hB2 := hb1.trans (hb2.mono hb1.size)
      clear hb1 hb2 h h'
      have HK : Hid (val 18446744073709551616 xs * val 18446744073709551616 ys = (val 18446744073709551616 (xs.take half) + 18446744073709551616 ^ half * val 18446744073709551616 (xs.drop half)) * (val 18446744073709551616 (ys.take half) + 18446744073709551616 ^ half * val 18446744073709551616 (ys.drop half)) ∧
          val 18446744073709551616 xs * val 18446744073709551616 ys < 18446744073709551616 ^ (la + lb)) := by
        refine ⟨by rw [← val_split', ← val_split'], ?_⟩
        have q1 := val_lt (B := 18446744073709551616) (by decide) hxd
        have q2 := val_lt (B := 18446744073709551616) (by decide) hyd
        have q3 := val_nonneg (B := 18446744073709551616) (by decide) hxd
        have q4 := val_nonneg (B := 18446744073709551616) (by decide) hyd
        rw [HL.out.1] at q1
        rw [HL.out.2] at q2
        rw [Int.pow_add]
        have q5 : val 18446744073709551616 xs * val 18446744073709551616 ys ≤ val 18446744073709551616 xs * 18446744073709551616 ^ lb := Int.mul_le_mul_of_nonneg_left (by omega) q3
        have q6 : (val 18446744073709551616 xs + 1) * 18446744073709551616 ^ lb ≤ 18446744073709551616 ^ la * 18446744073709551616 ^ lb := Int.mul_le_mul_of_nonneg_right (by omega) (Int.le_of_lt (pow_pos' (by decide) _))
        have q7 := pow_pos' (B := 18446744073709551616) (by decide) lb
        rw [Int.add_mul] at q6
        omega
      generalize hXL : xs.take half = XL at hxl HK
      generalize hXH : xs.drop half = XH at hxh HK
      generalize hYL : ys.take half = YL at hyl HK
      generalize hYH : ys.drop half = YH at hyh HK
      clear hXL hXH hYL hYH
      have c2 := hcl'.out v2 hB2
      go_wp2_with fail
      refine (HI.out _ _ _ _ _ _ _ _ _ (by omega) hxl hyl (by omega) (by omega) c2).mono ?_
      rintro e v3 ⟨Ll, gl, nl, rfl, hLl, hnl, hgl, hbl, hLd, hLv, hb3⟩
      have HLo : Hid (Ll.length = nl ∧ nl = k1 + m1 ∧ val 18446744073709551616 Ll = val 18446744073709551616 XL * val 18446744073709551616 YL) := ⟨hLl, hnl, hLv⟩
      have hnl' : nl ≤ la + lb ∧ nl ≤ 2 * half := by omega
      clear hLl hnl hLv c2
      replace hxl := hxl.below hb3
      replace hyl := hyl.below hb3
      replace hxh := hxh.below hb3
      replace hyh := hyh.below hb3
      have hB3 := hB2.trans (hb3.mono hB2.size)
      have hgl' : w.heap.size ≤ gl := by have := hB2.size; omega
      clear hb3 hgl
      have c3 := hcl'.out v3 hB3
      go_wp2_with fail
      refine (HI.out _ _ _ _ _ _ _ _ _ (by omega) hxh hyh (by omega) (by omega) c3).mono ?_
      rintro e v4 ⟨Lh, gh, nh, rfl, hLl, hnh, hgh, hbh, hLhd, hLv, hb4⟩
      have HHi : Hid (Lh.length = nh ∧ nh = k2 + m2 ∧ val 18446744073709551616 Lh = val 18446744073709551616 XH * val 18446744073709551616 YH) := ⟨hLl, hnh, hLv⟩
      have hnh' : nh ≤ la + lb - 2 * 6 ∧ nh ≤ 2 * half := by omega
      clear hLl hnh hLv c3
      replace hbl := hbl.below hb4 hbl.lt
      replace hxl := hxl.below hb4
      replace hyl := hyl.below hb4
      replace hxh := hxh.below hb4
      replace hyh := hyh.below hb4
      have hB4 := hB3.trans (hb4.mono hB3.size)
      have hgh' : w.heap.size ≤ gh := by have := hB3.size; omega
      have hgls : gl < v4.heap.size := hbl.lt
      have hghs : gh < v4.heap.size := hbh.lt
      clear hb4 hgh
      have c4 := hcl'.out v4 hB4
      go_upto_region 8 with fail
      go_cut [13] (fun mv wx => ∃ Lm gm nm, mv = .slice (some ⟨gm, 0, none⟩) nm nm ∧ Lm.length = nm ∧ (k1 + m1 ≤ nm ∧ k2 + m2 ≤ nm ∧ nm ≤ 2 * half + 2) ∧ v4.heap.size ≤ gm ∧ Blk wx gm Lm ∧ Digs 18446744073709551616 Lm ∧
          val 18446744073709551616 Lm = (val 18446744073709551616 XL + val 18446744073709551616 XH) * (val 18446744073709551616 YL + val 18446744073709551616 YH) ∧ Below v4.heap.size v4 wx)
      case first =>
        have HPx : Hid (∀ wx, Below v4.heap.size v4 wx → Calls Tryz.prog 103 #[.slice xa1 k1 xc1, .slice xa2 k2 xc2] wx fun e w' => ∃ L n, e = .returned (.slice (some ⟨wx.heap.size, 0, none⟩) n n) ∧ (k1 + 1 ≤ n ∧ k2 + 1 ≤ n ∧ n ≤ half + 1) ∧ Nums w' (some ⟨wx.heap.size, 0, none⟩) n n L ∧
            val 18446744073709551616 L = val 18446744073709551616 XL + val 18446744073709551616 XH ∧ Below v4.heap.size v4 w' ∧ Below wx.heap.size wx w') := by
          intro wx hbx
          refine (plus_any _ _ _ _ _ _ _ _ _ (hxl.below hbx) (hxh.below hbx) (by omega) (by omega)).mono ?_
          rintro e w' ⟨L, n, rfl, hl, hn, hblk, hd, hv, hb⟩
          have q1 : k1 ≤ Nat.max k1 k2 := Nat.le_max_left ..
          have q2 : k2 ≤ Nat.max k1 k2 := Nat.le_max_right ..
          have q3 : Nat.max k1 k2 ≤ half := Nat.max_le.2 ⟨by omega, by omega⟩
          exact ⟨L, n, rfl, by omega, hblk.nums hd hl (by omega), hv, hbx.trans (hb.mono hbx.size), hb⟩
        have HPy : Hid (∀ wx, Below v4.heap.size v4 wx → Calls Tryz.prog 103 #[.slice ya1 m1 yc1, .slice ya2 m2 yc2] wx fun e w' => ∃ L n, e = .returned (.slice (some ⟨wx.heap.size, 0, none⟩) n n) ∧ (m1 + 1 ≤ n ∧ m2 + 1 ≤ n ∧ n ≤ half + 1) ∧ Nums w' (some ⟨wx.heap.size, 0, none⟩) n n L ∧
            val 18446744073709551616 L = val 18446744073709551616 YL + val 18446744073709551616 YH ∧ Below v4.heap.size v4 w' ∧ Below wx.heap.size wx w') := by
          intro wx hbx
          refine (plus_any _ _ _ _ _ _ _ _ _ (hyl.below hbx) (hyh.below hbx) (by omega) (by omega)).mono ?_
          rintro e w' ⟨L, n, rfl, hl, hn, hblk, hd, hv, hb⟩
          have q1 : m1 ≤ Nat.max m1 m2 := Nat.le_max_left ..
          have q2 : m2 ≤ Nat.max m1 m2 := Nat.le_max_right ..
          have q3 : Nat.max m1 m2 ≤ half := Nat.max_le.2 ⟨by omega, by omega⟩
          exact ⟨L, n, rfl, by omega, hblk.nums hd hl (by omega), hv, hbx.trans (hb.mono hbx.size), hb⟩
        have HT : Hid (∀ wx p1 n1 L1 p2 n2 L2, Nums wx p1 n1 n1 L1 → Nums wx p2 n2 n2 L2 → Below v4.heap.size v4 wx → val 18446744073709551616 L1 = val 18446744073709551616 XL + val 18446744073709551616 XH → val 18446744073709551616 L2 = val 18446744073709551616 YL + val 18446744073709551616 YH →
            (k1 + 1 ≤ n1 ∧ k2 + 1 ≤ n1 ∧ n1 ≤ half + 1) → (m1 + 1 ≤ n2 ∧ m2 + 1 ≤ n2 ∧ n2 ≤ half + 1) →
            Calls Tryz.prog 100 #[.slice p1 n1 n1, .slice p2 n2 n2, .pointer (some ⟨g0, 0, none⟩)] wx fun e w' => ∃ Lm gm nm, e = .returned (.slice (some ⟨gm, 0, none⟩) nm nm) ∧ Lm.length = nm ∧ (k1 + m1 ≤ nm ∧ k2 + m2 ≤ nm ∧ nm ≤ 2 * half + 2) ∧ v4.heap.size ≤ gm ∧ Blk w' gm Lm ∧ Digs 18446744073709551616 Lm ∧
              val 18446744073709551616 Lm = (val 18446744073709551616 XL + val 18446744073709551616 XH) * (val 18446744073709551616 YL + val 18446744073709551616 YH) ∧ Below v4.heap.size v4 w') := by
          intro wx p1 n1 L1 p2 n2 L2 hp1 hp2 hbx hv1 hv2 hn1 hn2
          refine (HI.out _ _ _ _ _ _ _ _ wx (by omega) hp1 hp2 (by omega) (by omega) (hcl'.out wx (hB4.trans (hbx.mono hB4.size)))).mono ?_
          rintro e w' ⟨L, g, n, rfl, hl, hn, hg, hblk, hd, hv, hb⟩
          exact ⟨L, g, n, rfl, hl, by omega, by have := hbx.size; omega, hblk, hd, by rw [hv, hv1, hv2], hbx.trans (hb.mono hbx.size)⟩
        have HS : Hid (∀ wx, Below v4.heap.size v4 wx → wx.cell? ⟨g0, 0, none⟩ = some (.func (.func 100) #[] #[.pointer (some ⟨g0, 0, none⟩)])) := fun wx hb => hcl'.out wx (hB4.trans (hb.mono hB4.size))
        clear HLo HHi HK hnl' hnh' hbl hbh hcl' HI hB4 hB3 hB2
        go_region_held3 (fun w' => w'.cell? ⟨g0, 0, none⟩ = some (.func (.func 100) #[] #[.pointer (some ⟨g0, 0, none⟩)])) (first | exact HS.out _ ⟨hB8.os, hB8.tape, hB8.output, hB8.size, hB8.block⟩ | exact HS.out _ ⟨hBy.os, hBy.tape, hBy.output, hBy.size, hBy.block⟩ | exact HS.out _ ⟨hBx.os, hBx.tape, hBx.output, hBx.size, hBx.block⟩ | exact HS.out _ ⟨rfl, rfl, rfl, Nat.le_refl _, fun _ _ => rfl⟩)
          (first
            | (go_at_call_of 103 (Value.slice xa1 k1 xc1); refine (HPx.out _ ?_).mono ?_; (first | exact ⟨hBy.os, hBy.tape, hBy.output, hBy.size, hBy.block⟩ | exact ⟨rfl, rfl, rfl, Nat.le_refl _, fun _ _ => rfl⟩); rintro e w6 ⟨Lx, nx, rfl, hnx, hX, hvx, hBx, hFx⟩)
            | (go_at_call_of 103 (Value.slice ya1 m1 yc1); refine (HPy.out _ ?_).mono ?_; (first | exact ⟨hBx.os, hBx.tape, hBx.output, hBx.size, hBx.block⟩ | exact ⟨rfl, rfl, rfl, Nat.le_refl _, fun _ _ => rfl⟩); rintro e w7 ⟨Ly, ny, rfl, hny, hY, hvy, hBy, hFy⟩)
            | (go_at_call 100; refine (HT.out _ _ nx Lx _ ny Ly ?_ ?_ ?_ hvx hvy hnx hny).mono ?_; (first | exact ⟨(hX.below hFy).hlen, (hX.below hFy).hcap, (hX.below hFy).hmax, (hX.below hFy).cells, (hX.below hFy).word⟩ | exact ⟨hX.hlen, hX.hcap, hX.hmax, hX.cells, hX.word⟩); (first | exact ⟨hY.hlen, hY.hcap, hY.hmax, hY.cells, hY.word⟩ | exact ⟨(hY.below hFx).hlen, (hY.below hFx).hcap, (hY.below hFx).hmax, (hY.below hFx).cells, (hY.below hFx).word⟩); (first | exact ⟨hBy.os, hBy.tape, hBy.output, hBy.size, hBy.block⟩ | exact ⟨hBx.os, hBx.tape, hBx.output, hBx.size, hBx.block⟩); rintro e w8 ⟨Lm, gm, nm, rfl, hm1, hm2, hm3, hm4, hm5, hm6, hB8⟩))
        all_goals
          clear HPx HPy HT HS
          go_wp2_with fail
          go_meet
          case rel => exact ⟨Lm, gm, nm, rfl, hm1, hm2, hm3, hm4, hm5, hm6, ⟨hB8.os, hB8.tape, hB8.output, hB8.size, hB8.block⟩⟩
      case rest =>
        obtain ⟨Lm, gm, nm, rfl, hm1, hm2, hm3, hbm, hmd, hmv, hb5⟩ := hcut
        have HMi : Hid (Lm.length = nm ∧ val 18446744073709551616 Lm = (val 18446744073709551616 XL + val 18446744073709551616 XH) * (val 18446744073709551616 YL + val 18446744073709551616 YH)) := ⟨hm1, hmv⟩
        have hXLn := val_nonneg (B := 18446744073709551616) (by decide) hxl.digs
        have hXHn := val_nonneg (B := 18446744073709551616) (by decide) hxh.digs
        have hYLn := val_nonneg (B := 18446744073709551616) (by decide) hyl.digs
        have hYHn := val_nonneg (B := 18446744073709551616) (by decide) hyh.digs
        clear hxl hxh hyl hyh hm1 hmv c4 HI hcl'
        have hBl := hbl.below hb5 hgls
        have hBh := hbh.below hb5 hghs
        have hB5 := hB4.trans (hb5.mono hB4.size)
        have hlowN := hBl.nums hLd HLo.out.1 (by omega)
        have hhighN := hBh.nums hLhd HHi.out.1 (by omega)
        have hge1 : val 18446744073709551616 Ll ≤ val 18446744073709551616 Lm := by
          rw [HLo.out.2.2, HMi.out.2, Int.add_mul, Int.mul_add, Int.mul_add]
          have := mul_nn hXLn hYHn; have := mul_nn hXHn hYLn; have := mul_nn hXHn hYHn
          omega
        have HG1 : Hid (val 18446744073709551616 Ll ≤ val 18446744073709551616 Lm) := hge1
        clear hge1
        go_wp2_with fail
        refine (takeFrom_any _ gm 0 nm _ Lm _ nl nl Ll _ (fun _ => rfl) (fun _ => hbm) hmd (by have := HMi.out.1; omega) (by omega) hlowN (fun _ x hx => by cases hx; simp; omega)).mono ?_
        rintro e v6 ⟨M1, bw1, rfl, hbM1, hM1d, hM1l, -, hbw1, hv1, hg6⟩
        have hv1' := take_end (by decide) hM1d HMi.out.1 hM1l (by have := HLo.out; omega) HG1.out hbw1 hv1
        have HM1 : Hid (M1.length = nm ∧ val 18446744073709551616 M1 = val 18446744073709551616 Lm - val 18446744073709551616 Ll) := ⟨hM1l.trans HMi.out.1, hv1'⟩
        replace hbM1 := hbM1 (by omega)
        have hBl6 := hBl.grown hg6 (by simp; omega)
        have hBh6 := hBh.grown hg6 (by simp; omega)
        have hhighN6 := hBh6.nums hLhd HHi.out.1 (by omega)
        have hB6 := hB5.trans (below_of_grown hg6 (by have := hB4.size; omega) hB5.size)
        clear hv1 hv1' hM1l hg6 hBl hBh hlowN hhighN hB5 hbm hmd hb5
        have hge2 : val 18446744073709551616 Lh ≤ val 18446744073709551616 M1 := by
          rw [HM1.out.2, HHi.out.2.2, HMi.out.2, HLo.out.2.2, Int.add_mul, Int.mul_add, Int.mul_add]
          have := mul_nn hXLn hYHn; have := mul_nn hXHn hYLn
          omega
        have HG2 : Hid (val 18446744073709551616 Lh ≤ val 18446744073709551616 M1) := hge2
        clear hge2
        go_wp2_with fail
        refine (takeFrom_any _ gm 0 nm _ M1 _ nh nh Lh _ (fun _ => rfl) (fun _ => hbM1) hM1d (by have := HM1.out.1; omega) (by omega) hhighN6 (fun _ x hx => by cases hx; simp; omega)).mono ?_
        rintro e v7 ⟨M2, bw2, rfl, hbM2, hM2d, hM2l, -, hbw2, hv2, hg7⟩
        have hv2' := take_end (by decide) hM2d HM1.out.1 hM2l (by have := HHi.out; omega) HG2.out hbw2 hv2
        have HM2 : Hid (M2.length = nm ∧ val 18446744073709551616 M2 = (val 18446744073709551616 XL + val 18446744073709551616 XH) * (val 18446744073709551616 YL + val 18446744073709551616 YH) - val 18446744073709551616 XL * val 18446744073709551616 YL - val 18446744073709551616 XH * val 18446744073709551616 YH) :=
          ⟨hM2l.trans HM1.out.1, by rw [hv2', HM1.out.2, HMi.out.2, HLo.out.2.2, HHi.out.2.2]⟩
        replace hbM2 := hbM2 (by omega)
        have hBl7 := hBl6.grown hg7 (by simp; omega)
        have hBh7 := hBh6.grown hg7 (by simp; omega)
        have hB7 := hB6.trans (below_of_grown hg7 (by have := hB4.size; omega) hB6.size)
        clear hv2 hv2' hM2l hg7 hBl6 hBh6 hhighN6 hB6 hbM1 hM1d HM1 HG1 HG2
        have hlowN := hBl7.nums hLd HLo.out.1 (by omega)
        go_wp2_with (at_make; refine wpList_mk _ rfl _ _ 26 rfl Tryz.underlying26 .i64 .i64 _ _ (la + lb) rfl rfl (by omega) (by omega) (by omega) ?_)
        intro v8 hb8 hbel8 hsz8
        have hlowN8 := hlowN.below hbel8
        have hBl8 := hBl7.below hbel8 hBl7.lt
        have hBh8 := hBh7.below hbel8 hBh7.lt
        have hbM8 := hbM2.below hbel8 hbM2.lt
        have hB8 := hB7.trans (hbel8.mono hB7.size)
        have hglp := hBl7.lt
        have hghp := hBh7.lt
        have hgmp := hbM2.lt
        have hpge := hB7.size
        obtain ⟨gp, hgp⟩ : ∃ gp, gp = v7.heap.size := ⟨_, rfl⟩
        rw [← hgp] at hb8 hglp hghp hgmp hpge ⊢
        clear hgp hlowN hBl7 hBh7 hbM2 hbel8 hB7 hsz8
        have HK2 : Hid (val 18446744073709551616 Ll + 18446744073709551616 ^ half * val 18446744073709551616 M2 + 18446744073709551616 ^ (2 * half) * val 18446744073709551616 Lh = val 18446744073709551616 xs * val 18446744073709551616 ys ∧
            0 ≤ 18446744073709551616 ^ half * val 18446744073709551616 M2 ∧ 0 ≤ 18446744073709551616 ^ (2 * half) * val 18446744073709551616 Lh ∧ 0 ≤ val 18446744073709551616 Ll) := by
          have hp := pow_pos' (B := 18446744073709551616) (by decide) half
          have hp2 := pow_pos' (B := 18446744073709551616) (by decide) (2 * half)
          refine ⟨?_, mul_nn (Int.le_of_lt hp) (val_nonneg (by decide) hM2d), mul_nn (Int.le_of_lt hp2) (val_nonneg (by decide) hLhd), val_nonneg (by decide) hLd⟩
          rw [HK.out.1, kara, HM2.out.2, HLo.out.2.2, HHi.out.2.2, show 2 * half = half + half by omega, Int.pow_add, Int.mul_assoc]
        go_wp2_with (refine wpList_cp _ (by rfl) _ _ 26 26 (by rfl) Tryz.underlying26 gp (la + lb) (la + lb) _ (by rfl) hb8 (by simp [noughts]) _ _ _ Ll (by rfl) hlowN8 (by omega) ?_)
        intro v9 hb9 hg9 hsz9
        rw [over_noughts] at hb9
        have hBh9 := hBh8.grown hg9 (by simp; omega)
        have hbM9 := hbM8.grown hg9 (by simp; omega)
        have hB9 := hB8.trans (below_of_grown hg9 hpge hB8.size)
        have HP9 : Hid ((Ll ++ List.replicate (la + lb - nl) 0).length = la + lb ∧ val 18446744073709551616 (Ll ++ List.replicate (la + lb - nl) 0) = val 18446744073709551616 Ll ∧ Digs 18446744073709551616 (Ll ++ List.replicate (la + lb - nl) 0)) :=
          ⟨by simp [HLo.out.1]; omega, val_pad _ _, hLd.pad _⟩
        generalize Ll ++ List.replicate (la + lb - nl) 0 = P9 at hb9 HP9
        have hmidN := hbM9.nums hM2d HM2.out.1 (by omega)
        clear hb8 hg9 hsz9 hlowN8 hBl8 hBh8 hbM8 hB8 hLd
        have hne1 : ¬ la + lb = half := by omega
        have hhi1 : (half : Int) ≤ (la : Int) + (lb : Int) := by omega
        go_wp2_with fail
        refine (addTo_any _ gp half (la + lb - half) _ P9 _ nm nm M2 _ (fun _ => rfl) hb9 HP9.out.2.2 (by have := HP9.out.1; omega) (by omega) hmidN (fun _ x hx => by cases hx; simp; omega)).mono ?_
        rintro e v10 ⟨M3, cy3, rfl, hb10, hM3d, hM3l, hM3s, hcy3, hv3, hg10⟩
        have hv3' := add_end (n := la + lb - half) (by decide) hM3d hM2d (by have := HP9.out.1; omega) hM3l hM3s hcy3 hv3 (by
          rw [show half + (la + lb - half) = la + lb by omega, HP9.out.2.1]
          have := HK2.out; have := HK.out.2; omega) (by rw [HP9.out.2.1]; exact HK2.out.2.2.2)
        have HM3 : Hid (M3.length = la + lb ∧ val 18446744073709551616 M3 = val 18446744073709551616 Ll + 18446744073709551616 ^ half * val 18446744073709551616 M2) := ⟨hM3l.trans HP9.out.1, by rw [hv3', HP9.out.2.1]⟩
        have hBh10 := hBh9.grown hg10 (by simp; omega)
        have hB10 := hB9.trans (below_of_grown hg10 hpge hB9.size)
        have hhighN := hBh10.nums hLhd HHi.out.1 (by omega)
        clear hv3 hv3' hM3l hM3s hg10 hBh9 hbM9 hB9 hb9 hmidN hM2d
        have hne2 : ¬ la + lb = 2 * half := by omega
        have hhi2 : 2 * (half : Int) ≤ (la : Int) + (lb : Int) := by omega
        go_wp2_with fail
        refine (addTo_any _ gp (2 * half) (la + lb - 2 * half) _ M3 _ nh nh Lh _ (fun _ => rfl) hb10 hM3d (by have := HM3.out.1; omega) (by omega) hhighN (fun _ x hx => by cases hx; simp; omega)).mono ?_
        rintro e v11 ⟨M4, cy4, rfl, hb11, hM4d, hM4l, hM4s, hcy4, hv4, hg11⟩
        have hv4' := add_end (n := la + lb - 2 * half) (by decide) hM4d hLhd (by have := HM3.out.1; omega) hM4l hM4s hcy4 hv4 (by
          rw [show 2 * half + (la + lb - 2 * half) = la + lb by omega, HM3.out.2]
          have := HK2.out; have := HK.out.2; omega) (by rw [HM3.out.2]; have := HK2.out; omega)
        have HM4 : Hid (M4.length = la + lb ∧ val 18446744073709551616 M4 = val 18446744073709551616 xs * val 18446744073709551616 ys) := ⟨hM4l.trans HM3.out.1, by rw [hv4', HM3.out.2]; exact HK2.out.1⟩
        have hB11 := hB10.trans (below_of_grown hg11 hpge hB10.size)
        clear hv4 hv4' hM4l hM4s hg11 hBh10 hB10 hb10 hhighN
        go_wp2_with fail
        go_ret
        exact ⟨M4, gp, _, rfl, HM4.out.1, rfl, hpge, hb11, hM4d, HM4.out.2, hB11⟩
theorem times_all (g0 : Nat) : ∀ N, TimesOk g0 N
  | 0 => fun a b la ca lb cb xs ys w hlt => by omega
  | N + 1 => fun a b la ca lb cb xs ys w hlt h h' hla hlb hc => by
    by_cases hs : la < 12 ∨ lb < 12
    · exact times_small g0 a b la ca lb cb xs ys w h h' hla hlb hs
    · exact times_big g0 N (times_all g0 N) a b la ca lb cb xs ys w (by omega) h h' hla hlb (by omega) (by omega) hc

set_option maxHeartbeats 400000 in
theorem product_any (a b : Option Addr) (la ca lb cb : Nat) (xs ys : List Int) (w : World) (h : Nums w a la ca xs) (h' : Nums w b lb cb ys) (hla : la ≤ 64) (hlb : lb ≤ 64) :
    Calls Tryz.prog 86 #[.slice a la ca, .slice b lb cb] w fun e w' => ∃ L g n, e = .returned (.slice (some ⟨g, 0, none⟩) n n) ∧ L.length = n ∧ n = la + lb ∧ w.heap.size ≤ g ∧
      Blk w' g L ∧ Digs 18446744073709551616 L ∧ val 18446744073709551616 L = val 18446744073709551616 xs * val 18446744073709551616 ys ∧ Below w.heap.size w w' := by
  have hb0 := (Below.refl w.heap.size w).alloc (Nat.le_refl _) (.cells #[clos w.heap.size] 85)
  have hT := times_all w.heap.size (la + lb + 1) a b la ca lb cb xs ys _ (by omega) (h.below hb0) (h'.below hb0) (by omega) (by omega) (by simp [clos])
  go_enter Tryz.func86, Tryz.ntmps86
  go_wp2_with fail
  refine hT.mono ?_
  rintro e w' ⟨L, g, n, rfl, h1, h2, h3, h4, h5, h6, h7⟩
  have HH : Hid (L.length = n ∧ n = la + lb ∧ val 18446744073709551616 L = val 18446744073709551616 xs * val 18446744073709551616 ys) := ⟨h1, h2, h6⟩
  have hbe := hb0.trans (h7.mono (by simp))
  have hge : w.heap.size ≤ g := by have := h3; simp at this; omega
  clear h1 h2 h6 hT h7 h3
  go_wp2_with fail
  go_ret
  exact ⟨L, g, n, rfl, HH.out.1, HH.out.2.1, hge, h4, h5, HH.out.2.2, hbe⟩
end Go.Proofs.YtchmlfjjgehbkaaGreat

namespace Go.Proofs.YtchmlfjjgehbkaaGreat
open Go.RowKit

/-- Each number has its list of digits. -/
theorem digs_exist {B : Int} (hB : 1 < B) : ∀ (n : Nat) (v : Int), 0 ≤ v → v ≤ n → ∃ zs, Digs B zs ∧ Top zs ∧ val B zs = v
  | 0, v, h0, hn => ⟨[], Digs.nil _, .inl rfl, by simp [val]; omega⟩
  | n + 1, v, h0, hn => by
    by_cases hv : v = 0
    · exact ⟨[], Digs.nil _, .inl rfl, by simp [val, hv]⟩
    · have hq0 : 0 ≤ v / B := Int.ediv_nonneg h0 (by omega)
      have hq1 : v / B < v := Int.ediv_lt_self_of_pos_of_ne_one (by omega) (by omega)
      obtain ⟨r, hd, ht, hval⟩ := digs_exist hB n (v / B) hq0 (by omega)
      have hm0 : 0 ≤ v % B := Int.emod_nonneg _ (by omega)
      have hm1 : v % B < B := Int.emod_lt_of_pos _ (by omega)
      have e := Int.emod_add_mul_ediv v B
      refine ⟨v % B :: r, fun x hx => ?_, ?_, by rw [val, hval]; exact e⟩
      · rcases List.mem_cons.1 hx with rfl | hx
        · exact ⟨hm0, hm1⟩
        · exact hd x hx
      · right
        rcases ht with rfl | ht
        · simp [val] at hval
          rw [← hval] at e
          simp; omega
        · have hr : r ≠ [] := by intro e; subst e; simp at ht
          have hl : 0 < r.length := by cases r <;> simp_all
          obtain ⟨k, hk⟩ : ∃ k, r.length = k + 1 := ⟨r.length - 1, by omega⟩
          rw [hk] at ht
          simp only [Nat.add_sub_cancel] at ht
          simpa [hk] using ht

theorem long_mk {v : Int} (h0 : 0 ≤ v) {k : Nat} (hk : 64 ≤ k) (hv : 18446744073709551616 ^ k ≤ v) : Res v [] 4 := by
  obtain ⟨zs, hd, ht, e⟩ := digs_exist (B := 18446744073709551616) (by decide) v.toNat v h0 (by omega)
  refine .inr ⟨rfl, rfl, zs, hd, ht, e, ?_⟩
  have h1 := val_lt (B := 18446744073709551616) (by decide) hd
  rw [e] at h1
  by_cases hl : 64 < zs.length
  · exact hl
  · have h2 := pow_mono (B := 18446744073709551616) (by decide) (show zs.length ≤ k by omega)
    omega

theorem mul_long {xs ys : List Int} (hx : Digs 18446744073709551616 xs) (hy : Digs 18446744073709551616 ys) (tx : Top xs) (ty : Top ys) (h1 : 0 < xs.length) (h2 : 0 < ys.length) (h : 64 < xs.length + ys.length - 1) :
    Res (val 18446744073709551616 xs * val 18446744073709551616 ys) [] 4 := by
  have a1 := val_ge (B := 18446744073709551616) (by decide) hx tx (by intro e; subst e; simp at h1)
  have a2 := val_ge (B := 18446744073709551616) (by decide) hy ty (by intro e; subst e; simp at h2)
  have p1 := pow_pos' (B := 18446744073709551616) (by decide) (xs.length - 1)
  have p2 := pow_pos' (B := 18446744073709551616) (by decide) (ys.length - 1)
  refine long_mk (mul_nn (by omega) (by omega)) (k := (xs.length - 1) + (ys.length - 1)) (by omega) ?_
  rw [Int.pow_add]
  exact Int.mul_le_mul a1 a2 (by omega) (by omega)

theorem res_zero {v : Int} (h : v = 0) : Res v [] 0 := by
  subst h; exact .inl ⟨rfl, Digs.nil _, .inl rfl, by decide, rfl⟩

set_option maxHeartbeats 800000 in
theorem mul_any (a b : Option Addr) (la ca lb cb : Nat) (zs ys : List Int) (w : World) (h : Nums w a la ca zs) (h' : Nums w b lb cb ys) :
    Calls Tryz.prog 65 #[.slice a la ca, .slice b lb cb] w fun e w' => ∃ a' n cap' ls err, e = .returned (.tuple #[.slice a' n cap', .int .i64 err]) ∧ Nums w' a' n cap' ls ∧
      Res2 zs ys (val 18446744073709551616 zs * val 18446744073709551616 ys) ls err ∧ Fresh w w' a' n ∧ Below w.heap.size w w' := by
  have hl := h.hlen
  have hl' := h'.hlen
  cases hr : rightB zs with
  | false =>
    go_enter Tryz.func65, Tryz.ntmps65
    go_wp2_with fail
    refine (right_any _ _ _ _ _ h).mono ?_
    rintro e w' ⟨rfl, rfl⟩
    go_wp2_with fail
    go_ret2
    exact ⟨none, 0, 0, [], 1, rfl, Nums.nil _, by simp [Res2, hr], fun hp => absurd hp (Nat.lt_irrefl _), Below.refl _ _⟩
  | true =>
  cases hr' : rightB ys with
  | false =>
    go_enter Tryz.func65, Tryz.ntmps65
    go_wp2_with fail
    refine (right_any _ _ _ _ _ h).mono ?_
    rintro e w' ⟨rfl, rfl⟩
    go_wp2_with fail
    refine (right_any _ _ _ _ _ h').mono ?_
    rintro e w' ⟨rfl, rfl⟩
    go_wp2_with fail
    go_ret2
    exact ⟨none, 0, 0, [], 1, rfl, Nums.nil _, by simp [Res2, hr'], fun hp => absurd hp (Nat.lt_irrefl _), Below.refl _ _⟩
  | true =>
    have hla : la ≤ 64 := by have := right_len hr; omega
    have hlb : lb ≤ 64 := by have := right_len hr'; omega
    have res2 : ∀ ls err, Res (val 18446744073709551616 zs * val 18446744073709551616 ys) ls err → Res2 zs ys (val 18446744073709551616 zs * val 18446744073709551616 ys) ls err := fun ls err q => by simp only [Res2, hr, hr']; exact q
    have HR2 := (show Hid _ from res2)
    clear res2
    have htz := right_top hr
    have hty := right_top hr'
    have hdz := h.digs
    have hdy := h'.digs
    by_cases h0 : la = 0
    · have hz : Res (val 18446744073709551616 zs * val 18446744073709551616 ys) [] 0 := res_zero (by rw [List.eq_nil_of_length_eq_zero (hl.trans h0)]; simp [val])
      have HZ : Hid (Res (val 18446744073709551616 zs * val 18446744073709551616 ys) [] 0) := hz
      clear hz
      subst h0
      go_enter Tryz.func65, Tryz.ntmps65
      go_wp2_with fail
      refine (right_any _ _ _ _ _ h).mono ?_
      rintro e w' ⟨rfl, rfl⟩
      rw [hr]
      go_wp2_with fail
      refine (right_any _ _ _ _ _ h').mono ?_
      rintro e w' ⟨rfl, rfl⟩
      rw [hr']
      go_wp2_with fail
      go_ret2
      exact ⟨none, 0, 0, [], 0, rfl, Nums.nil _, HR2.out _ _ HZ.out, fun hp => absurd hp (Nat.lt_irrefl _), Below.refl _ _⟩
    have ha0 : ((la : Int) == 0) = false := by simp; omega
    by_cases h0' : lb = 0
    · have hz : Res (val 18446744073709551616 zs * val 18446744073709551616 ys) [] 0 := res_zero (by rw [List.eq_nil_of_length_eq_zero (hl'.trans h0')]; simp [val])
      have HZ : Hid (Res (val 18446744073709551616 zs * val 18446744073709551616 ys) [] 0) := hz
      clear hz
      subst h0'
      go_enter Tryz.func65, Tryz.ntmps65
      go_wp2_with fail
      refine (right_any _ _ _ _ _ h).mono ?_
      rintro e w' ⟨rfl, rfl⟩
      rw [hr]
      go_wp2_with fail
      refine (right_any _ _ _ _ _ h').mono ?_
      rintro e w' ⟨rfl, rfl⟩
      rw [hr']
      go_wp2_with fail
      go_ret2
      exact ⟨none, 0, 0, [], 0, rfl, Nums.nil _, HR2.out _ _ HZ.out, fun hp => absurd hp (Nat.lt_irrefl _), Below.refl _ _⟩
    have hb0 : ((lb : Int) == 0) = false := by simp; omega
    by_cases hlong : 64 < la + lb - 1
    · have hz := mul_long hdz hdy htz hty (by omega) (by omega) (by omega)
      have HZ : Hid (Res (val 18446744073709551616 zs * val 18446744073709551616 ys) [] 4) := hz
      clear hz
      have hli : (64 : Int) < (la : Int) + (lb : Int) - 1 := by omega
      go_enter Tryz.func65, Tryz.ntmps65
      go_wp2_with fail
      refine (right_any _ _ _ _ _ h).mono ?_
      rintro e w' ⟨rfl, rfl⟩
      rw [hr]
      go_wp2_with fail
      refine (right_any _ _ _ _ _ h').mono ?_
      rintro e w' ⟨rfl, rfl⟩
      rw [hr']
      go_wp2_with fail
      go_ret2
      exact ⟨none, 0, 0, [], 4, rfl, Nums.nil _, HR2.out _ _ HZ.out, fun hp => absurd hp (Nat.lt_irrefl _), Below.refl _ _⟩
    · have hli : ¬ (64 : Int) < (la : Int) + (lb : Int) - 1 := by omega
      go_enter Tryz.func65, Tryz.ntmps65
      go_wp2_with fail
      refine (right_any _ _ _ _ _ h).mono ?_
      rintro e w' ⟨rfl, rfl⟩
      rw [hr]
      go_wp2_with fail
      refine (right_any _ _ _ _ _ h').mono ?_
      rintro e w0 ⟨rfl, rfl⟩
      rw [hr']
      go_wp2_with fail
      refine (product_any _ _ _ _ _ _ _ _ _ h h' hla hlb).mono ?_
      rintro e w1 ⟨L, g, n, rfl, hLl, hn, hg, hblk, hLd, hv, hb⟩
      have hn' : n ≤ 1000000 := by omega
      have hnum := hblk.nums hLd hLl hn'
      have HV : Hid (val 18446744073709551616 L = val 18446744073709551616 zs * val 18446744073709551616 ys ∧ L.length = n) := ⟨hv, hLl⟩
      clear hv hLl hn
      go_wp2_with fail
      refine (fitted_any _ _ _ _ _ hnum).mono ?_
      rintro e w2 ⟨a', k, cap', ls, err, rfl, hn2, hres, ha, hkl, rfl⟩
      rw [HV.out.1] at hres
      have HR : Hid (Res (val 18446744073709551616 zs * val 18446744073709551616 ys) ls err) := hres
      clear hres
      go_wp2_with fail
      go_ret2
      exact ⟨_, _, _, _, _, rfl, hn2, HR2.out _ _ HR.out, fun hp => ⟨_, L, ha hp, hg, hblk, by have := HV.out.2; omega⟩, hb⟩
end Go.Proofs.YtchmlfjjgehbkaaGreat

namespace Go.Proofs.YtchmlfjjgehbkaaGreat
open Go.RowKit

theorem Own.fresh {w : World} {base : Nat} {v : Value} {zs : List Int} (h : Own w base v zs) (hd : Digs 18446744073709551616 zs) :
    ∃ a n cap, v = .slice a n cap ∧ Nums w a n cap zs ∧ (0 < n → ∃ g, a = some ⟨g, 0, none⟩ ∧ base ≤ g ∧ Blk w g zs) := by
  obtain ⟨h1, h2⟩ := h
  rcases h2 with ⟨rfl, hn⟩ | ⟨g, cap, cur, rfl, hb, hg, hnc, hcm, hcs, htk⟩
  · have e : zs = [] := List.eq_nil_of_length_eq_zero hn
    subst e
    exact ⟨none, 0, 0, rfl, Nums.nil _, fun h => absurd h (Nat.lt_irrefl _)⟩
  · have hblk : Blk w g zs := ⟨cur, hg, by simpa using htk⟩
    refine ⟨some ⟨g, 0, none⟩, zs.length, cap, rfl, ⟨rfl, hnc, hcm, fun _ => ⟨g, 0, rfl, fun i hi => ?_⟩, hd⟩, fun _ => ⟨g, rfl, hb, hblk⟩⟩
    rw [Nat.zero_add]; exact hblk.cell hi

set_option maxHeartbeats 400000 in
theorem clone_any (a : Option Addr) (len cap : Nat) (zs : List Int) (w : World) (h : Nums w a len cap zs) (hn : len ≤ 100000) :
    Calls Tryz.prog 89 #[.slice a len cap] w fun e w' => ∃ a' n cap', e = .returned (.slice a' n cap') ∧ Nums w' a' n cap' zs ∧ (0 < n → ∃ g, a' = some ⟨g, 0, none⟩ ∧ w.heap.size ≤ g ∧ Blk w' g zs) ∧ Below w.heap.size w w' := by
  have hd := h.digs
  cases a with
  | none =>
    have hm : len = 0 := by
      rcases Nat.eq_zero_or_pos len with h0 | h0
      · exact h0
      · obtain ⟨b, off, e, _⟩ := h.cells h0; cases e
    subst hm
    have e : zs = [] := List.eq_nil_of_length_eq_zero h.hlen
    subst e
    have heq := fun wx => Lib.run_eql_slice_nil (P := Tryz.prog) wx 26 44 none 0 cap 0 0 Tryz.underlying26
    go_enter Tryz.func89, Tryz.ntmps89
    go_wp2
    go_ret
    exact ⟨none, 0, 0, rfl, Nums.nil _, fun h => absurd h (Nat.lt_irrefl _), Below.refl _ _⟩
  | some x =>
    have heq := fun wx => Lib.run_eql_slice_nil (P := Tryz.prog) wx 26 44 (some x) len cap 0 0 Tryz.underlying26
    go_enter Tryz.func89, Tryz.ntmps89
    have hown := Own.empty w
    have hb0 := (Below.refl w.heap.size w).alloc (Nat.le_refl _) (.cells #[] 44)
    have h1 := h.below hb0
    go_wp2_with (at_builtin; refine wpList_appN _ rfl _ _ 26 rfl Tryz.underlying26 w.heap.size _ [] rfl hown (some x) len cap zs rfl h1 ?_ ?_ w ?_ hb0 ?_)
    · intro e; cases e
    · simp; omega
    · simp
    · intro v' w2 hown1 hb1
      obtain ⟨a1, n1, cap1, rfl, hn1, hfr⟩ := hown1.fresh hd
      clear hown1 hown h1 hb0
      go_wp2
      go_ret
      exact ⟨_, _, _, rfl, hn1, hfr, hb1⟩

/-- What is told of a difference. -/
def ResSub (zs ys : List Int) (ls : List Int) (err : Int) : Prop :=
  if rightB zs && rightB ys then (if val 18446744073709551616 zs < val 18446744073709551616 ys then err = 2 ∧ ls = [] else Res (val 18446744073709551616 zs - val 18446744073709551616 ys) ls err) else err = 1 ∧ ls = []

theorem ResSub.unique {zs ys : List Int} {ls ks : List Int} {e f : Int} (h : ResSub zs ys ls e) (h' : ResSub zs ys ks f) : ls = ks ∧ e = f := by
  unfold ResSub at h h'
  split at h
  · rename_i hc
    rw [if_pos hc] at h'
    split at h
    · rename_i hc2
      rw [if_pos hc2] at h'
      obtain ⟨rfl, rfl⟩ := h
      obtain ⟨rfl, rfl⟩ := h'
      exact ⟨rfl, rfl⟩
    · rename_i hc2
      rw [if_neg hc2] at h'
      exact h.unique h'
  · rename_i hc
    rw [if_neg hc] at h'
    obtain ⟨rfl, rfl⟩ := h
    obtain ⟨rfl, rfl⟩ := h'
    exact ⟨rfl, rfl⟩

theorem sub_end {B : Int} (hB : 0 < B) {zs ys M : List Int} {n : Nat} {bw : Int} (hz : Digs B zs) (hy : Digs B ys) (ty : Top ys) (hge : val B ys ≤ val B zs) (hM : Digs B M) (hzl : zs.length = n) (hMl : M.length = zs.length) (hbw : 0 ≤ bw ∧ bw ≤ 1)
    (hv : vs B (fun i => M.getD (0 + i) 0) n - B ^ n * bw = vs B (fun i => zs.getD (0 + i) 0) n - vs B (fun i => ys.getD i 0) n) : val B M = val B zs - val B ys := by
  have hle : ys.length ≤ n := by
    by_cases h : ys.length ≤ n
    · exact h
    · have := val_lt_of_len hB hz hy ty (by omega); omega
  simp only [Nat.zero_add] at hv
  rw [vs_all _ M (by omega), vs_all _ zs (by omega), vs_all _ ys hle] at hv
  have b1 := val_lt hB hM
  rw [hMl, hzl] at b1
  have hc : bw = 0 ∨ bw = 1 := by omega
  rcases hc with rfl | rfl <;> omega

set_option maxHeartbeats 800000 in
theorem sub_any (a b : Option Addr) (la ca lb cb : Nat) (zs ys : List Int) (w : World) (h : Nums w a la ca zs) (h' : Nums w b lb cb ys) :
    Calls Tryz.prog 106 #[.slice a la ca, .slice b lb cb] w fun e w' => ∃ a' n cap' ls err, e = .returned (.tuple #[.slice a' n cap', .int .i64 err]) ∧ Nums w' a' n cap' ls ∧
      ResSub zs ys ls err ∧ Fresh w w' a' n ∧ Below w.heap.size w w' := by
  have nothing : Fresh w w none 0 := fun hp => absurd hp (Nat.lt_irrefl _)
  cases hr : rightB zs with
  | false =>
    go_enter Tryz.func106, Tryz.ntmps106
    go_wp2_with fail
    refine (right_any _ _ _ _ _ h).mono ?_
    rintro e w' ⟨rfl, rfl⟩
    go_wp2_with fail
    go_ret2
    exact ⟨none, 0, 0, [], 1, rfl, Nums.nil _, by simp [ResSub, hr], fun hp => absurd hp (Nat.lt_irrefl _), Below.refl _ _⟩
  | true =>
  cases hr' : rightB ys with
  | false =>
    go_enter Tryz.func106, Tryz.ntmps106
    go_wp2_with fail
    refine (right_any _ _ _ _ _ h).mono ?_
    rintro e w' ⟨rfl, rfl⟩
    go_wp2_with fail
    refine (right_any _ _ _ _ _ h').mono ?_
    rintro e w' ⟨rfl, rfl⟩
    go_wp2_with fail
    go_ret2
    exact ⟨none, 0, 0, [], 1, rfl, Nums.nil _, by simp [ResSub, hr'], fun hp => absurd hp (Nat.lt_irrefl _), Below.refl _ _⟩
  | true =>
    have hla : la ≤ 64 := by have := right_len hr; have := h.hlen; omega
    have hlb : lb ≤ 64 := by have := right_len hr'; have := h'.hlen; omega
    have hcn : cmpN zs ys = cmpZ (val 18446744073709551616 zs) (val 18446744073709551616 ys) := by simp [cmpN, hr, hr']
    by_cases hlt : val 18446744073709551616 zs < val 18446744073709551616 ys
    · have hc1 : cmpN zs ys = -1 := by rw [hcn, cmpZ_lt hlt]
      clear hcn
      have HP : Hid (ResSub zs ys [] 2) := (show ResSub zs ys [] 2 by simp [ResSub, hr, hr', hlt])
      clear hlt
      go_enter Tryz.func106, Tryz.ntmps106
      go_wp2_with fail
      refine (right_any _ _ _ _ _ h).mono ?_
      rintro e w' ⟨rfl, rfl⟩
      go_wp2_with fail
      refine (right_any _ _ _ _ _ h').mono ?_
      rintro e w0 ⟨rfl, rfl⟩
      go_wp2_with fail
      refine (cmp_any _ _ _ _ _ _ _ _ _ h h').mono ?_
      rintro e w1 ⟨rfl, hb1⟩
      rw [hc1]
      clear hc1
      go_wp2_with fail
      go_ret2
      exact ⟨none, 0, 0, [], 2, rfl, Nums.nil _, HP.out, fun hp => absurd hp (Nat.lt_irrefl _), hb1⟩
    · have hc1 : ¬ cmpN zs ys < 0 := by rw [hcn]; unfold cmpZ; rw [if_neg hlt]; split <;> omega
      clear hcn
      have HG : Hid (¬ val 18446744073709551616 zs < val 18446744073709551616 ys) := hlt
      clear hlt
      obtain ⟨cc, hcc⟩ : ∃ cc, cc = cmpN zs ys := ⟨_, rfl⟩
      rw [← hcc] at hc1
      have HC : Hid (cc = cmpN zs ys) := hcc
      clear hcc
      go_enter Tryz.func106, Tryz.ntmps106
      go_wp2_with fail
      refine (right_any _ _ _ _ _ h).mono ?_
      rintro e w' ⟨rfl, rfl⟩
      go_wp2_with fail
      refine (right_any _ _ _ _ _ h').mono ?_
      rintro e w0 ⟨rfl, rfl⟩
      go_wp2_with fail
      refine (cmp_any _ _ _ _ _ _ _ _ _ h h').mono ?_
      rintro e w1 ⟨rfl, hb1⟩
      rw [← HC.out]
      go_wp2_with fail
      refine (clone_any _ _ _ _ _ (h.below hb1) (by omega)).mono ?_
      rintro e w2 ⟨da, dn, dc, rfl, hd, hfr, hb2⟩
      have hb12 := hb1.trans (hb2.mono hb1.size)
      have hdl := hd.hlen
      have hzl := h.hlen
      obtain rfl : la = dn := by omega
      have hy2 := h'.below hb12
      have HD : Hid (zs.length = la) := hdl
      clear hdl hzl
      obtain ⟨g, hs, hblk, hgge⟩ : ∃ g, (0 < la → da = some ⟨g, 0, none⟩) ∧ (0 < la → Blk w2 g zs) ∧ w0.heap.size ≤ g := by
        rcases Nat.eq_zero_or_pos la with h0 | h0
        · exact ⟨w0.heap.size, fun hp => absurd hp (by omega), fun hp => absurd hp (by omega), Nat.le_refl _⟩
        · obtain ⟨g', e, hge, hbk⟩ := hfr h0
          exact ⟨g', fun _ => e, fun _ => hbk, by have := hb1.size; omega⟩
      have hap : 0 < lb → Apart b g := fun hp x hx => by
        obtain ⟨b1, o1, rfl, hc⟩ := h'.cells hp
        have := World.block_lt_of_cell? w0 _ (hc 0 hp)
        cases hx
        simp at this ⊢; omega
      have hzd := h.digs
      have hyd := h'.digs
      have hty := right_top hr'
      have hdm := hd.hmax
      have hdc := hd.hcap
      clear hfr
      go_wp2_with fail
      refine (takeFrom_any da g 0 la dc zs b lb cb ys _ hs hblk hzd (by have := HD.out; omega) (by omega) hy2 hap).mono ?_
      rintro e w3 ⟨M, bw, rfl, hbM, hMd, hMl, -, hbw, hv, hg3⟩
      have hval := sub_end (by decide) hzd hyd hty (by have := HG.out; omega) hMd HD.out hMl hbw hv
      have hb3 := hb12.trans (below_of_grown hg3 hgge hb12.size)
      have hM : Nums w3 da la dc M := ⟨by rw [hMl]; exact HD.out, hdc, hdm, fun hp => ⟨g, 0, hs hp, fun i hi => by rw [Nat.zero_add]; exact (hbM hp).cell (by have := HD.out; omega)⟩, hMd⟩
      have HV : Hid (val 18446744073709551616 M = val 18446744073709551616 zs - val 18446744073709551616 ys ∧ M.length = zs.length) := ⟨hval, hMl⟩
      clear hv hval hMl
      go_wp2_with fail
      refine (trimmed_any _ _ _ _ _ hM).mono ?_
      rintro e w4 ⟨a', k, cap', rfl, htr, hk, rfl⟩
      have hkl : k ≤ la := by have := htr.le; have := hM.hlen; omega
      have hn4 : Nums w4 a' k cap' (M.take k) := by
        rcases hk with ⟨rfl, rfl, rfl⟩ | ⟨_, rfl, rfl⟩
        · simpa using Nums.nil w4
        · exact hM.take hkl
      have hfr4 : Fresh w0 w4 a' k := fun hp => by
        rcases hk with ⟨rfl, _, _⟩ | ⟨_, rfl, _⟩
        · exact absurd hp (Nat.lt_irrefl _)
        · exact ⟨g, M, hs (by omega), hgge, hbM (by omega), by have := HV.out.2; have := HD.out; omega⟩
      have hres : Res (val 18446744073709551616 zs - val 18446744073709551616 ys) (M.take k) 0 := .inl ⟨rfl, hMd.take k, htr.Top, by rw [hn4.hlen]; omega, htr.val.trans HV.out.1⟩
      have HR : Hid (ResSub zs ys (M.take k) 0) := (show ResSub zs ys (M.take k) 0 by rw [ResSub, hr, hr', Bool.and_true, if_pos rfl, if_neg (Int.not_lt.2 HG.out)]; exact hres)
      clear hres htr hk
      go_wp2_with fail
      go_ret2
      exact ⟨_, _, _, _, _, rfl, hn4, HR.out, hfr4, hb3⟩
end Go.Proofs.YtchmlfjjgehbkaaGreat

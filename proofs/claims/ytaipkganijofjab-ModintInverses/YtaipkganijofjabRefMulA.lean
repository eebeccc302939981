/-
  The contract of the document's Mul.
-/
import Derived.Test.YtaipkganijofjabSum
import Derived.Test.YtaipkganijofjabRefCmp
import Derived.Test.YtaipkganijofjabOut
namespace Go.Proofs.Ytaipkganijofjab
open Go.RowKit

theorem rmul_step {M ys : List Int} {i k n : Nat} {x y m c V0 : Int} (hlt : i + k < n) (hM : Digs 65536 M) (hx : 0 ≤ x ∧ x < 65536) (hyd : Digs 65536 ys) (hn : M.length = n) (hc : 0 ≤ c ∧ c < 65536) (hm : m = M.getD (i + k) 0) (hy : y = ys.getD k 0)
    (hv : vs 65536 (fun j => M.getD j 0) n + 65536 ^ (i + k) * c = V0 + 65536 ^ i * (x * vs 65536 (fun j => ys.getD j 0) k)) :
    (M.set (i + k) ((m + x * y + c) % 65536)).length = n ∧ Digs 65536 (M.set (i + k) ((m + x * y + c) % 65536)) ∧ (0 ≤ (m + x * y + c) / 65536 ∧ (m + x * y + c) / 65536 < 65536) ∧
    vs 65536 (fun j => (M.set (i + k) ((m + x * y + c) % 65536)).getD j 0) n + 65536 ^ (i + (k + 1)) * ((m + x * y + c) / 65536) = V0 + 65536 ^ i * (x * vs 65536 (fun j => ys.getD j 0) (k + 1)) := by
  have bm : 0 ≤ m ∧ m < 65536 := by rw [hm]; exact hM.getD (by decide) _
  have by' : 0 ≤ y ∧ y < 65536 := by rw [hy]; exact hyd.getD (by decide) _
  have p0 : 0 ≤ x * y := Int.mul_nonneg hx.1 by'.1
  have p1 : x * y ≤ 65535 * y := Int.mul_le_mul_of_nonneg_right (by omega) by'.1
  refine ⟨by simpa using hn, hM.set _ ⟨by omega, by omega⟩, ⟨by omega, by omega⟩, ?_⟩
  rw [vs_set hlt (by omega), ← hm]
  simp only [vs]
  rw [← hy, show i + (k + 1) = (i + k) + 1 by omega, Int.pow_succ, Int.mul_assoc]
  have e1 : (65536 : Int) ^ i * (x * (vs 65536 (fun j => ys.getD j 0) k + 65536 ^ k * y)) = 65536 ^ i * (x * vs 65536 (fun j => ys.getD j 0) k) + 65536 ^ (i + k) * (x * y) := by
    rw [Int.mul_add, Int.mul_add, Int.pow_add, Int.mul_assoc (65536 ^ i), Int.mul_left_comm x]
  rw [e1]
  generalize (65536 : Int) ^ (i + k) = P at hv ⊢
  have e0 : (m + x * y + c) % 65536 + 65536 * ((m + x * y + c) / 65536) = m + x * y + c := by omega
  generalize (m + x * y + c) % 65536 = r at e0 ⊢
  generalize (m + x * y + c) / 65536 = t at e0 ⊢
  have e2 : P * (r - m) + P * (65536 * t) = P * (x * y) + P * c := by rw [← Int.mul_add, ← Int.mul_add]; congr 1; omega
  omega

theorem rmul_end {M zs ys : List Int} {i n : Nat} {x c : Int} (hn : M.length = n) (hi : i < zs.length) (hlt : i + ys.length < n) (hx : x = zs.getD i 0) (hz : M.getD (i + ys.length) 0 = 0)
    (hv : vs 65536 (fun j => M.getD j 0) n + 65536 ^ (i + ys.length) * c = val 65536 (zs.take i) * val 65536 ys + 65536 ^ i * (x * vs 65536 (fun j => ys.getD j 0) ys.length)) :
    vs 65536 (fun j => (M.set (i + ys.length) c).getD j 0) n = val 65536 (zs.take (i + 1)) * val 65536 ys := by
  rw [vs_set hlt (by omega), hz, val_take_succ _ _ _ hi, ← hx, Int.add_mul, Int.mul_assoc, Int.sub_zero, hv, vs_all _ ys (Nat.le_refl _)]

set_option maxHeartbeats 1600000 in
theorem rmul_any (a b : Option Addr) (la ca lb cb : Nat) (zs ys : List Int) (w : World) (h : Nums w a la ca zs) (h' : Nums w b lb cb ys) (dz : Digs 65536 zs) (dy : Digs 65536 ys) (hla : la ≤ 10000) (hlb : lb ≤ 10000) :
    Calls Try.prog 50 #[.slice a la ca, .slice b lb cb] w fun e w' => ∃ a' n cap' ds, e = .returned (.slice a' n cap') ∧ Nums w' a' n cap' ds ∧ Digs 65536 ds ∧ Top ds ∧ n ≤ la + lb ∧
      val 65536 ds = val 65536 zs * val 65536 ys ∧ Below w.heap.size w w' := by
  have HL : Hid (zs.length = la ∧ ys.length = lb) := ⟨h.hlen, h'.hlen⟩
  go_enter Try.func50, Try.ntmps50
  go_wp2_with (at_make; refine wpList_mk _ rfl _ _ 62 rfl Try.underlying62 .i64 .i64 _ _ (la + lb) rfl rfl (by omega) (by omega) (by omega) ?_)
  intro w1 hb1 hbel hsz
  have h1 := h.below hbel
  have h1' := h'.below hbel
  have hz0 : vs 65536 (fun j => (noughts (la + lb)).getD j 0) (la + lb) = val 65536 (zs.take 0) * val 65536 ys := by
    rw [vs_zero _ (fun i hi => by simp [noughts, List.getD, hi])]; simp [val]
  have HN : Hid (vs 65536 (fun j => (noughts (la + lb)).getD j 0) (la + lb) = val 65536 (zs.take 0) * val 65536 ys ∧ (noughts (la + lb)).length = la + lb ∧ Digs 65536 (noughts (la + lb)) ∧ ∀ j, (noughts (la + lb)).getD j 0 = 0) :=
    ⟨hz0, length_noughts _, fun x hx => by rw [(List.mem_replicate.1 hx).2]; omega, fun j => by simp only [noughts, List.getD, List.getElem?_replicate]; split <;> rfl⟩
  clear hz0
  go_wp2
  go_loopw [6] (fun iv wr => ∃ i : Nat, i ≤ la ∧ iv = .int .i64 i ∧ ∃ M, Blk wr w.heap.size M ∧ M.length = la + lb ∧ Digs 65536 M ∧ (∀ j, i + lb ≤ j → M.getD j 0 = 0) ∧
      vs 65536 (fun j => M.getD j 0) (la + lb) = val 65536 (zs.take i) * val 65536 ys ∧ Below w.heap.size w wr) (fun iv _ => la - (intOf iv).toNat)
  case atStart => exact ⟨0, Nat.zero_le _, rfl, _, hb1, HN.out.2.1, HN.out.2.2.1, fun j _ => HN.out.2.2.2 j, HN.out.1, hbel⟩
  case round =>
    obtain ⟨i, hi, rfl, M, hbM, hMl, hMd, hMz, hMv, hb⟩ := hrel
    have HM : Hid (M.length = la + lb ∧ Digs 65536 M ∧ (∀ j, i + lb ≤ j → M.getD j 0 = 0) ∧ vs 65536 (fun j => M.getD j 0) (la + lb) = val 65536 (zs.take i) * val 65536 ys) := ⟨hMl, hMd, hMz, hMv⟩
    clear hMl hMd hMz hMv
    have hz2 := h.below hb
    by_cases hlt : i < la
    · obtain ⟨b1, o1, rfl, hc⟩ := hz2.cells (by omega)
      obtain ⟨b1', o1', e', hc'⟩ := h.cells (by omega)
      cases e'
      have hlt1 := World.block_lt_of_cell? w _ (hc' 0 (by omega))
      obtain ⟨x, hx⟩ : ∃ x, x = zs.getD i 0 := ⟨_, rfl⟩
      have c1 : ∀ wx, Below w.heap.size w wx → wx.cell? ⟨b1, o1 + i, none⟩ = some (.int .u64 x) := fun wx hbx => by rw [hx]; exact (hbx.cell (p := ⟨b1, o1 + i, none⟩) hlt1).trans (hc' i hlt)
      have HC : Hid (∀ wx, Below w.heap.size w wx → wx.cell? ⟨b1, o1 + i, none⟩ = some (.int .u64 x)) := c1
      have bx : 0 ≤ x ∧ x < 65536 := by rw [hx]; exact dz.getD (by decide) _
      have HX : Hid (x = zs.getD i 0) := hx
      clear hx c1 hc hc'
      have hlti : (i : Int) < (la : Int) := by omega
      go_wp2
      go_loopw [7, 8] (fun cv kv wq => ∃ k : Nat, k ≤ lb ∧ kv = .int .i64 k ∧ ∃ N c, cv = .int .u64 c ∧ Blk wq w.heap.size N ∧ N.length = la + lb ∧ Digs 65536 N ∧ (0 ≤ c ∧ c < 65536) ∧ (∀ j, i + lb ≤ j → N.getD j 0 = 0) ∧
          vs 65536 (fun j => N.getD j 0) (la + lb) + 65536 ^ (i + k) * c = val 65536 (zs.take i) * val 65536 ys + 65536 ^ i * (x * vs 65536 (fun j => ys.getD j 0) k) ∧ Below w.heap.size w wq) (fun _ kv _ => lb - (intOf kv).toNat)
      case atStart => exact ⟨0, Nat.zero_le _, rfl, M, 0, rfl, hbM, HM.out.1, HM.out.2.1, by omega, HM.out.2.2.1, by rw [HM.out.2.2.2]; simp [vs], hb⟩
      case round =>
        obtain ⟨k, hk, rfl, N, c, rfl, hbN, hNl, hNd, hcb, hNz, hNv, hbq⟩ := hrel
        have HNN : Hid (N.length = la + lb ∧ Digs 65536 N ∧ (∀ j, i + lb ≤ j → N.getD j 0 = 0) ∧ vs 65536 (fun j => N.getD j 0) (la + lb) + 65536 ^ (i + k) * c = val 65536 (zs.take i) * val 65536 ys + 65536 ^ i * (x * vs 65536 (fun j => ys.getD j 0) k)) := ⟨hNl, hNd, hNz, hNv⟩
        have hNl' : N.length ≤ 20000 := by omega
        clear hNl hNd hNz hNv
        by_cases hltk : k < lb
        · have hltki : (k : Int) < (lb : Int) := by omega
          have hik : (i : Int) + (k : Int) < ((la : Int) + (lb : Int)) := by omega
          obtain ⟨b2, o2, rfl, hc2⟩ := h'.cells (by omega)
          have hlt2 := World.block_lt_of_cell? w _ (hc2 0 (by omega))
          obtain ⟨y, hy⟩ : ∃ y, y = ys.getD k 0 := ⟨_, rfl⟩
          obtain ⟨m, hm⟩ : ∃ m, m = N.getD (i + k) 0 := ⟨_, rfl⟩
          have d1 := HC.out wr hbq
          have d2 : wr.cell? ⟨b2, o2 + k, none⟩ = some (.int .u64 y) := by rw [hy]; exact (hbq.cell (p := ⟨b2, o2 + k, none⟩) hlt2).trans (hc2 k hltk)
          have d3 : wr.cell? ⟨w.heap.size, i + k, none⟩ = some (.int .u64 m) := by rw [hm]; exact hbN.cell (by have := HNN.out.1; omega)
          have R := rmul_step (V0 := val 65536 (zs.take i) * val 65536 ys) (show i + k < la + lb by omega) HNN.out.2.1 bx dy HNN.out.1 hcb hm hy HNN.out.2.2.2
          have bm : 0 ≤ m ∧ m < 65536 := by rw [hm]; exact HNN.out.2.1.getD (by decide) _
          have by' : 0 ≤ y ∧ y < 65536 := by rw [hy]; exact dy.getD (by decide) _
          have p0 : 0 ≤ x * y := Int.mul_nonneg bx.1 by'.1
          have p1 : x * y ≤ 65535 * y := Int.mul_le_mul_of_nonneg_right (by omega) by'.1
          have p2 : x * y ≤ 4294836225 := by omega
          have HR := (show Hid _ from R)
          have HB := (show Hid _ from hbN.set (i + k) ((m + x * y + c) % 65536))
          have HG : Hid (Below w.heap.size w (wr.setCell ⟨w.heap.size, i + k, none⟩ (.int .u64 ((m + x * y + c) % 65536)))) := hbq.setCell (Nat.le_refl _) _
          have HZ : Hid (∀ j, i + lb ≤ j → (N.set (i + k) ((m + x * y + c) % 65536)).getD j 0 = 0) := fun j hj => by rw [getD_set_ne (by omega)]; exact HNN.out.2.2.1 j hj
          have hf1 : wr.frozen? ⟨w.heap.size, i + k, none⟩ = false := hbN.frozen _
          clear R hy hm hc2 p1 hbN hbq
          go_wp2
          go_quiet (fail)
          go_wp2
          go_roundw
          case rel => exact ⟨k + 1, by omega, by go_num, _, _, rfl, HB.out, HR.out.1, HR.out.2.1, HR.out.2.2.1, HZ.out, HR.out.2.2.2, below_drewN HG.out _⟩
          case measure => simp [intOf]; omega
        · obtain rfl : k = lb := by omega
          have hbb : (i : Int) + (k : Int) < ((la : Int) + (k : Int)) := by omega
          have hf1 : wr.frozen? ⟨w.heap.size, i + k, none⟩ = false := hbN.frozen _
          have R := rmul_end (c := c) (x := x) (M := N) (zs := zs) (ys := ys) (i := i) (n := la + k) HNN.out.1 (by have := HL.out; omega) (by have := HL.out; omega) HX.out (HNN.out.2.2.1 _ (by have := HL.out; omega)) (by rw [HL.out.2]; exact HNN.out.2.2.2)
          rw [HL.out.2] at R
          have HR : Hid (vs 65536 (fun j => (N.set (i + k) c).getD j 0) (la + k) = val 65536 (zs.take (i + 1)) * val 65536 ys) := R
          have hcc : ∃ v, wr.cell? ⟨w.heap.size, i + k, none⟩ = some v := ⟨_, hbN.cell (by have := HNN.out.1; omega)⟩
          obtain ⟨v0, hcc⟩ := hcc
          have HB := (show Hid _ from hbN.set (i + k) c)
          have HG : Hid (Below w.heap.size w (wr.setCell ⟨w.heap.size, i + k, none⟩ (.int .u64 c))) := hbq.setCell (Nat.le_refl _) _
          have HZ : Hid (∀ j, i + 1 + k ≤ j → (N.set (i + k) c).getD j 0 = 0) := fun j hj => by rw [getD_set_ne (by omega)]; exact HNN.out.2.2.1 j (by omega)
          clear R hbN hbq
          go_wp2
          go_roundw
          case rel => exact ⟨i + 1, by omega, by go_num, _, HB.out, by simpa using HNN.out.1, HNN.out.2.1.set _ hcb, HZ.out, HR.out, HG.out⟩
          case measure => simp [intOf]; omega
    · obtain rfl : i = la := by omega
      have hnum : Nums wr (some ⟨w.heap.size, 0, none⟩) (i + lb) (i + lb) M := by
        refine ⟨HM.out.1, Nat.le_refl _, by unfold maxLen; omega, fun _ => ⟨_, 0, rfl, fun j hj => ?_⟩, HM.out.2.1.wide⟩
        rw [Nat.zero_add]; exact hbM.cell (by have := HM.out.1; omega)
      have hfin : val 65536 M = val 65536 zs * val 65536 ys := by
        have := HM.out.2.2.2
        rw [vs_all _ M (by have := HM.out.1; omega), List.take_of_length_le (by have := HL.out; omega)] at this
        exact this
      have HF : Hid (val 65536 M = val 65536 zs * val 65536 ys) := hfin
      clear hfin
      go_wp2_with fail
      refine (cut_any _ _ _ _ _ hnum).mono ?_
      rintro e w' ⟨q, rfl, htr, rfl⟩
      have HT : Hid (Trim M q) := htr
      have hq : q ≤ i + lb := by have := htr.le; have := hnum.hlen; omega
      clear htr
      go_wp2_with fail
      go_ret
      exact ⟨_, _, _, M.take q, rfl, hnum.take hq, HM.out.2.1.take q, HT.out.Top, hq, by rw [HT.out.val]; exact HF.out, hb⟩
end Go.Proofs.Ytaipkganijofjab

namespace Go.Proofs.Ytaipkganijofjab
open Go.RowKit

set_option maxHeartbeats 400000 in
theorem refMul_any (a b : Option Addr) (la ca lb cb : Nat) (zs ys : List Int) (w : World) (h : Nums w a la ca zs) (h' : Nums w b lb cb ys) :
    Calls Try.prog 21 #[.slice a la ca, .slice b lb cb] w fun e w' => ∃ a' n cap' ls err, e = .returned (.tuple #[.slice a' n cap', .int .i64 err]) ∧ Nums w' a' n cap' ls ∧
      Res2 zs ys (val 18446744073709551616 zs * val 18446744073709551616 ys) ls err ∧ Below w.heap.size w w' := by
  cases hr : rightB zs with
  | false =>
    go_enter Try.func21, Try.ntmps21
    go_wp2_with fail
    refine (refRight_any _ _ _ _ _ h).mono ?_
    rintro e w' ⟨rfl, rfl⟩
    go_wp2_with fail
    refine (refRight_any _ _ _ _ _ h').mono ?_
    rintro e w' ⟨rfl, rfl⟩
    go_wp2_with fail
    go_ret2
    exact ⟨none, 0, 0, [], 1, rfl, Nums.nil _, by simp [Res2, hr], Below.refl _ _⟩
  | true =>
  cases hr' : rightB ys with
  | false =>
    go_enter Try.func21, Try.ntmps21
    go_wp2_with fail
    refine (refRight_any _ _ _ _ _ h).mono ?_
    rintro e w' ⟨rfl, rfl⟩
    go_wp2_with fail
    refine (refRight_any _ _ _ _ _ h').mono ?_
    rintro e w' ⟨rfl, rfl⟩
    go_wp2_with fail
    go_ret2
    exact ⟨none, 0, 0, [], 1, rfl, Nums.nil _, by simp [Res2, hr'], Below.refl _ _⟩
  | true =>
    have hla : la ≤ 64 := by have := right_len hr; have := h.hlen; omega
    have hlb : lb ≤ 64 := by have := right_len hr'; have := h'.hlen; omega
    have hzd := h.digs
    have hyd := h'.digs
    have hzl := right_len hr
    have hyl := right_len hr'
    go_enter Try.func21, Try.ntmps21
    go_wp2_with fail
    refine (refRight_any _ _ _ _ _ h).mono ?_
    rintro e w' ⟨rfl, rfl⟩
    go_wp2_with fail
    refine (refRight_any _ _ _ _ _ h').mono ?_
    rintro e w0 ⟨rfl, rfl⟩
    go_wp2_with fail
    refine (in_any _ _ _ _ _ h (by omega)).mono ?_
    rintro e w1 ⟨a1, n1, c1, ds, rfl, hn1, hd1, ht1, hv1, hb1⟩
    have hl1 := in_len hd1 ht1 hv1 hzd hzl
    have hl1' : n1 ≤ 256 := by have := hn1.hlen; omega
    have HV1 : Hid (val 65536 ds = val 18446744073709551616 zs) := hv1
    clear hv1 hl1
    go_wp2_with fail
    refine (in_any _ _ _ _ _ (h'.below hb1) (by omega)).mono ?_
    rintro e w2 ⟨a2, n2, c2, es, rfl, hn2, hd2, ht2, hv2, hb2⟩
    have hl2 := in_len hd2 ht2 hv2 hyd hyl
    have hl2' : n2 ≤ 256 := by have := hn2.hlen; omega
    have HV2 : Hid (val 65536 es = val 18446744073709551616 ys) := hv2
    clear hv2 hl2
    have hb12 := hb1.trans (hb2.mono hb1.size)
    go_wp2_with fail
    refine (rmul_any _ _ _ _ _ _ _ _ _ (hn1.below hb2) hn2 hd1 hd2 (by omega) (by omega)).mono ?_
    rintro e w3 ⟨a3, n3, c3, fs, rfl, hn3, hd3, ht3, hl3, hv3, hb3⟩
    have HV3 : Hid (val 65536 fs = val 65536 ds * val 65536 es) := hv3
    clear hv3
    have hb13 := hb12.trans (hb3.mono hb12.size)
    go_wp2_with fail
    refine (told_any _ _ _ _ _ hn3 hd3 ht3 (by omega)).mono ?_
    rintro e w4 ⟨a4, n4, c4, ls, err, rfl, hn4, hres, hb4⟩
    rw [HV3.out, HV1.out, HV2.out] at hres
    have HR : Hid (Res (val 18446744073709551616 zs * val 18446744073709551616 ys) ls err) := hres
    clear hres
    have hb14 := hb13.trans (hb4.mono hb13.size)
    go_wp2_with fail
    go_ret2
    exact ⟨_, _, _, _, _, rfl, hn4, by simp only [Res2, hr, hr']; exact HR.out, hb14⟩
end Go.Proofs.Ytaipkganijofjab

/-
  The contract of addTimes: a number times a word, added in its place.
-/
import Derived.Test.YtaipkganijofjabMul64
import Derived.Test.YtaipkganijofjabSum
namespace Go.Proofs.Ytaipkganijofjab
open Go.RowKit

theorem add64z (x y : Int) (hx : 0 ≤ x) (hy : 0 ≤ y) (w : World) : (callFunc 107 #[.int .u64 x, .int .u64 y, .int .u64 0]).run Try.prog w =
    .ok (.value (.tuple #[.int .u64 (lo (x + y)), .int .u64 (hi (x + y))])) w := by
  have := add64 x y 0 hx hy (Int.le_refl _) (by decide) w
  simpa using this

theorem at_step {L M : List Int} {o n k : Nat} {ys : List Int} {cy m x y : Int} (hk : k < n) (hon : o + n ≤ L.length) (hml : M.length = L.length) (hmd : Digs 18446744073709551616 M) (hyd : Digs 18446744073709551616 ys) (hm : 0 ≤ m ∧ m < 18446744073709551616)
    (hsame : ∀ j, j < o ∨ o + k ≤ j → M.getD j 0 = L.getD j 0) (hc : 0 ≤ cy ∧ cy < 18446744073709551616)
    (hv : vs 18446744073709551616 (fun i => M.getD (o + i) 0) k + 18446744073709551616 ^ k * cy = vs 18446744073709551616 (fun i => L.getD (o + i) 0) k + m * vs 18446744073709551616 (fun i => ys.getD i 0) k)
    (hx : x = M.getD (o + k) 0) (hy : y = ys.getD k 0) {h l r s t : Int} (e1 : l + 18446744073709551616 * h = y * m) (e2 : s + 18446744073709551616 * r = l + x) (h2 : hi (s + cy) = t) (bs : 0 ≤ s ∧ s < 18446744073709551616) (_b1 : 0 ≤ h) (_b2 : 0 ≤ r) :
    (M.set (o + k) (lo (s + cy))).length = L.length ∧ Digs 18446744073709551616 (M.set (o + k) (lo (s + cy))) ∧
    (∀ j, j < o ∨ o + (k + 1) ≤ j → (M.set (o + k) (lo (s + cy))).getD j 0 = L.getD j 0) ∧ (0 ≤ h + r + t ∧ h + r + t < 18446744073709551616) ∧
    vs 18446744073709551616 (fun i => (M.set (o + k) (lo (s + cy))).getD (o + i) 0) (k + 1) + 18446744073709551616 ^ (k + 1) * (h + r + t) = vs 18446744073709551616 (fun i => L.getD (o + i) 0) (k + 1) + m * vs 18446744073709551616 (fun i => ys.getD i 0) (k + 1) := by
  have bx : 0 ≤ x ∧ x < 18446744073709551616 := by rw [hx]; exact hmd.getD (by decide) _
  have by' : 0 ≤ y ∧ y < 18446744073709551616 := by rw [hy]; exact hyd.getD (by decide) _
  have hp := hi_mul_bd by' hm
  have e3 := lo_hi (s + cy)
  have bl := lo_bd (s + cy)
  rw [h2] at e3
  have bt : 0 ≤ t := by rw [← h2]; unfold hi; omega
  generalize hz : lo (s + cy) = z at e3 bl ⊢
  have et : z + 18446744073709551616 * (h + r + t) = y * m + x + cy := by omega
  refine ⟨by simpa using hml, hmd.set _ bl, fun j hj => ?_, ⟨by omega, by omega⟩, ?_⟩
  · rw [getD_set_ne (by omega)]; exact hsame j (by omega)
  · have f1 : vs 18446744073709551616 (fun i => (M.set (o + k) z).getD (o + i) 0) k = vs 18446744073709551616 (fun i => M.getD (o + i) 0) k :=
      vs_congr (fun i hi => getD_set_ne (by omega))
    have f2 : (M.set (o + k) z).getD (o + k) 0 = z := getD_set_self (by omega)
    have f3 := hsame (o + k) (by omega)
    simp only [vs]
    rw [f1, f2, ← f3, ← hx, ← hy, Int.pow_succ, Int.mul_assoc, Int.mul_add m]
    generalize (18446744073709551616 : Int) ^ k = P at hv ⊢
    have e6 : P * z + P * (18446744073709551616 * (h + r + t)) = P * (y * m) + P * x + P * cy := by rw [← Int.mul_add, et, Int.mul_add, Int.mul_add]
    have e7 : m * (P * y) = P * (y * m) := by rw [Int.mul_left_comm, Int.mul_comm m y]
    omega

set_option maxHeartbeats 800000 in
theorem addTimes_any (s : Option Addr) (g o np c : Nat) (L : List Int) (b : Option Addr) (n cb : Nat) (ys : List Int) (m : Int) (w : World) (hs : 0 < n → s = some ⟨g, o, none⟩) (hm : 0 ≤ m ∧ m < 18446744073709551616)
    (hblk : Blk w g L) (hL : Digs 18446744073709551616 L) (hnp : n ≤ np) (hon : o + n ≤ L.length) (hn : n ≤ 100000) (hy : Nums w b n cb ys) (hap : 0 < n → Apart b g) :
    Calls Try.prog 109 #[.slice s np c, .slice b n cb, .int .u64 m] w fun e w' => ∃ M cy, e = .returned (.int .u64 cy) ∧ Blk w' g M ∧ Digs 18446744073709551616 M ∧ M.length = L.length ∧
      (∀ j, j < o ∨ o + n ≤ j → M.getD j 0 = L.getD j 0) ∧ (0 ≤ cy ∧ cy < 18446744073709551616) ∧
      vs 18446744073709551616 (fun i => M.getD (o + i) 0) n + 18446744073709551616 ^ n * cy = vs 18446744073709551616 (fun i => L.getD (o + i) 0) n + m * vs 18446744073709551616 (fun i => ys.getD i 0) n ∧
      w.grownBy w' (some g) := by
  have hyd := hy.digs
  go_enter Try.func109, Try.ntmps109
  go_wp2
  go_loopw [7, 14] (fun cv i wr => ∃ k : Nat, k ≤ n ∧ i = .int .i64 k ∧ ∃ M cy, cv = .int .u64 cy ∧ Blk wr g M ∧ M.length = L.length ∧ Digs 18446744073709551616 M ∧
      (∀ j, j < o ∨ o + k ≤ j → M.getD j 0 = L.getD j 0) ∧ (0 ≤ cy ∧ cy < 18446744073709551616) ∧
      vs 18446744073709551616 (fun i => M.getD (o + i) 0) k + 18446744073709551616 ^ k * cy = vs 18446744073709551616 (fun i => L.getD (o + i) 0) k + m * vs 18446744073709551616 (fun i => ys.getD i 0) k ∧
      w.grownBy wr (some g)) (fun _ i _ => n - (intOf i).toNat)
  case atStart => exact ⟨0, Nat.zero_le _, rfl, L, 0, rfl, hblk, rfl, hL, fun _ _ => rfl, by omega, by simp [vs], World.grownBy.refl _ _⟩
  case round =>
    obtain ⟨k, hk, rfl, M, cy, rfl, hbM, hml, hmd, hsame, hcy, hv, hgr⟩ := hrel
    by_cases hlt : k < n
    · obtain rfl := hs (by omega)
      obtain ⟨x, hx⟩ : ∃ x, x = M.getD (o + k) 0 := ⟨_, rfl⟩
      obtain ⟨y, hy'⟩ : ∃ y, y = ys.getD k 0 := ⟨_, rfl⟩
      have hc1 : wr.cell? ⟨g, o + k, none⟩ = some (.int .u64 x) := by rw [hx]; exact hbM.cell (by omega)
      have hf1 : wr.frozen? ⟨g, o + k, none⟩ = false := hbM.frozen _
      have hyn := hy.grown hgr hap
      obtain ⟨b2, o2, rfl, hc⟩ := hyn.cells (by omega)
      have hc2 : wr.cell? ⟨b2, o2 + k, none⟩ = some (.int .u64 y) := by rw [hy']; exact hc k hlt
      have bx : 0 ≤ x ∧ x < 18446744073709551616 := by rw [hx]; exact hmd.getD (by decide) _
      have by' : 0 ≤ y ∧ y < 18446744073709551616 := by rw [hy']; exact hyd.getD (by decide) _
      have hki : (k : Int) < (n : Int) := by omega
      have hkp : (k : Int) < (np : Int) := by omega
      have bhi := hi_mul_bd by' hm
      have blo := lo_bd (y * m)
      have elh := lo_hi (y * m)
      obtain ⟨h, hh⟩ : ∃ h, h = hi (y * m) := ⟨_, rfl⟩
      obtain ⟨l, hll⟩ : ∃ l, l = lo (y * m) := ⟨_, rfl⟩
      have HMul : Hid (∀ wx, Calls Try.prog 106 #[.int .u64 y, .int .u64 m] wx fun e w' => e = .returned (.tuple #[.int .u64 h, .int .u64 l]) ∧ w' = wx) := fun wx => by rw [hh, hll]; exact mul64_any y m by' hm wx
      rw [← hh] at bhi elh
      rw [← hll] at blo elh
      have b1 : 0 ≤ h ∧ h ≤ 18446744073709551614 := ⟨bhi.1, bhi.2.1⟩
      have e2 := lo_hi (l + x)
      have bs := lo_bd (l + x)
      have br : 0 ≤ hi (l + x) ∧ hi (l + x) ≤ 1 := by unfold hi; omega
      obtain ⟨s1, hs1⟩ : ∃ s1, s1 = lo (l + x) := ⟨_, rfl⟩
      obtain ⟨r, hr⟩ : ∃ r, r = hi (l + x) := ⟨_, rfl⟩
      have A1 : ∀ wx, (callFunc 107 #[.int .u64 l, .int .u64 x, .int .u64 0]).run Try.prog wx = .ok (.value (.tuple #[.int .u64 s1, .int .u64 r])) wx := fun wx => by rw [hs1, hr]; exact add64z l x blo.1 bx.1 wx
      rw [← hs1] at e2 bs
      rw [← hr] at e2 br
      obtain ⟨t, ht⟩ : ∃ t, t = hi (s1 + cy) := ⟨_, rfl⟩
      have A2 : ∀ wx, (callFunc 107 #[.int .u64 s1, .int .u64 cy, .int .u64 0]).run Try.prog wx = .ok (.value (.tuple #[.int .u64 (lo (s1 + cy)), .int .u64 t])) wx := fun wx => by rw [ht]; exact add64z s1 cy bs.1 hcy.1 wx
      have R := at_step hlt hon hml hmd hyd hm hsame hcy hv hx hy' elh e2 ht.symm bs b1.1 br.1
      have HR := (show Hid _ from R)
      have bt : 0 ≤ t ∧ h + r + t < 18446744073709551616 := ⟨by rw [ht]; unfold hi; omega, R.2.2.2.1.2⟩
      have HB := (show Hid _ from hbM.set (o + k) (lo (s1 + cy)))
      have HG := (show Hid _ from grown_trans hgr (grown_set wr g (o + k) (.int .u64 (lo (s1 + cy)))))
      clear hx hy' hml hmd hsame hv R hbM hL hon hyd hblk hgr hc hh hll hs1 hr ht elh e2 bhi hyn
      go_wp2_with fail
      refine (HMul.out _).mono ?_
      rintro e w' ⟨rfl, rfl⟩
      go_wp2
      go_roundw
      case rel => exact ⟨k + 1, by omega, by go_num, _, _, rfl, HB.out, HR.out.1, HR.out.2.1, HR.out.2.2.1, HR.out.2.2.2.1, HR.out.2.2.2.2, HG.out⟩
      case measure => simp [intOf]; omega
    · obtain rfl : k = n := by omega
      go_wp2
      go_ret
      exact ⟨M, cy, rfl, hbM, hmd, hml, hsame, hcy, hv, hgr⟩
end Go.Proofs.Ytaipkganijofjab

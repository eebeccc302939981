/-
  The contract of timesPlus: limbs times a word, and a word, in their place.
-/
import Derived.Test.YtnioobiodiofiabAddTo
import Derived.Test.YtnioobiodiofiabMul64
import Derived.Test.YtnioobiodiofiabTakeOut
namespace Go.Proofs.Ytnioobiodiofiab
open Go.RowKit

theorem tp_step {L M : List Int} {n k : Nat} {cy m c x : Int} (hk : k < n) (hnl : n = L.length) (hml : M.length = L.length) (hmd : Digs 18446744073709551616 M) (hm : 0 ≤ m ∧ m < 18446744073709551616)
    (hsame : ∀ j, k ≤ j → M.getD j 0 = L.getD j 0) (hc : 0 ≤ cy ∧ cy < 18446744073709551616)
    (hv : vs 18446744073709551616 (fun i => M.getD i 0) k + 18446744073709551616 ^ k * cy = m * vs 18446744073709551616 (fun i => L.getD i 0) k + c)
    (hx : x = M.getD k 0) {h l r s : Int} (e1 : l + 18446744073709551616 * h = x * m) (e2 : s + 18446744073709551616 * r = l + cy) (bs : 0 ≤ s ∧ s < 18446744073709551616) (_bh : 0 ≤ h) (_br : 0 ≤ r) :
    (M.set k s).length = L.length ∧ Digs 18446744073709551616 (M.set k s) ∧ (∀ j, k + 1 ≤ j → (M.set k s).getD j 0 = L.getD j 0) ∧ (0 ≤ h + r ∧ h + r < 18446744073709551616) ∧
    vs 18446744073709551616 (fun i => (M.set k s).getD i 0) (k + 1) + 18446744073709551616 ^ (k + 1) * (h + r) = m * vs 18446744073709551616 (fun i => L.getD i 0) (k + 1) + c := by
  have bx : 0 ≤ x ∧ x < 18446744073709551616 := by rw [hx]; exact hmd.getD (by decide) _
  have hp := hi_mul_bd bx hm
  have et : s + 18446744073709551616 * (h + r) = x * m + cy := by omega
  have lh := lo_hi (x * m)
  have ll := lo_bd (x * m)
  refine ⟨by simpa using hml, hmd.set _ bs, fun j hj => ?_, ⟨by omega, by omega⟩, ?_⟩
  · rw [getD_set_ne (by omega)]; exact hsame j (by omega)
  · have f1 : vs 18446744073709551616 (fun i => (M.set k s).getD i 0) k = vs 18446744073709551616 (fun i => M.getD i 0) k := vs_congr (fun i hi => getD_set_ne (by omega))
    have f2 : (M.set k s).getD k 0 = s := getD_set_self (by omega)
    have f3 := hsame k (Nat.le_refl _)
    simp only [vs]
    rw [f1, f2, ← f3, ← hx, Int.pow_succ, Int.mul_assoc, Int.mul_add m]
    generalize (18446744073709551616 : Int) ^ k = P at hv ⊢
    have e6 : P * s + P * (18446744073709551616 * (h + r)) = P * (x * m) + P * cy := by rw [← Int.mul_add, et, Int.mul_add]
    have e7 : m * (P * x) = P * (x * m) := by rw [Int.mul_left_comm, Int.mul_comm m x]
    omega

set_option maxHeartbeats 1600000 in
theorem timesPlus_any (g n cap : Nat) (L : List Int) (m c : Int) (w : World) (hm : 0 ≤ m ∧ m < 18446744073709551616) (hc : 0 ≤ c ∧ c < 18446744073709551616)
    (hblk : Blk w g L) (hL : Digs 18446744073709551616 L) (hnl : n = L.length) (hn : n ≤ 10000) :
    Calls Try.prog 45 #[.slice (some ⟨g, 0, none⟩) n cap, .int .u64 m, .int .u64 c] w fun e w' => ∃ M cy, e = .returned (.tuple #[]) ∧ Blk w' g M ∧ Digs 18446744073709551616 M ∧ M.length = n ∧ 0 ≤ cy ∧
      val 18446744073709551616 M + 18446744073709551616 ^ n * cy = m * val 18446744073709551616 L + c ∧ w.grownBy w' (some g) := by
  have HNL : Hid (n = L.length) := hnl
  clear hnl
  go_enter Try.func45, Try.ntmps45
  go_wp2
  go_loopw [6, 15] (fun cv i wr => ∃ k : Nat, k ≤ n ∧ i = .int .i64 k ∧ ∃ M cy, cv = .int .u64 cy ∧ Blk wr g M ∧ M.length = L.length ∧ Digs 18446744073709551616 M ∧
      (∀ j, k ≤ j → M.getD j 0 = L.getD j 0) ∧ (0 ≤ cy ∧ cy < 18446744073709551616) ∧
      vs 18446744073709551616 (fun i => M.getD i 0) k + 18446744073709551616 ^ k * cy = m * vs 18446744073709551616 (fun i => L.getD i 0) k + c ∧ w.grownBy wr (some g)) (fun _ i _ => n - (intOf i).toNat)
  case atStart => exact ⟨0, Nat.zero_le _, rfl, L, c, rfl, hblk, rfl, hL, fun _ _ => rfl, hc, by simp [vs], World.grownBy.refl _ _⟩
  case round =>
    obtain ⟨k, hk, rfl, M, cy, rfl, hbM, hml, hmd, hsame, hcy, hv, hgr⟩ := hrel
    by_cases hlt : k < n
    · obtain ⟨x, hx⟩ : ∃ x, x = M.getD k 0 := ⟨_, rfl⟩
      have hc1 : wr.cell? ⟨g, k, none⟩ = some (.int .u64 x) := by rw [hx]; exact hbM.cell (by have := HNL.out; omega)
      have hf1 : wr.frozen? ⟨g, k, none⟩ = false := hbM.frozen _
      have bx : 0 ≤ x ∧ x < 18446744073709551616 := by rw [hx]; exact hmd.getD (by decide) _
      have hki : (k : Int) < (n : Int) := by omega
      have bhi := hi_mul_bd bx hm
      have blo := lo_bd (x * m)
      have elh := lo_hi (x * m)
      obtain ⟨h, hh⟩ : ∃ h, h = hi (x * m) := ⟨_, rfl⟩
      obtain ⟨l, hll⟩ : ∃ l, l = lo (x * m) := ⟨_, rfl⟩
      have HMul : Hid (∀ wx, Calls Try.prog 67 #[.int .u64 x, .int .u64 m] wx fun e w' => e = .returned (.tuple #[.int .u64 h, .int .u64 l]) ∧ w' = wx) := fun wx => by rw [hh, hll]; exact mul64_any x m bx hm wx
      rw [← hh] at bhi elh
      rw [← hll] at blo elh
      have b1 : 0 ≤ h ∧ h ≤ 18446744073709551614 := ⟨bhi.1, bhi.2.1⟩
      have e2 := lo_hi (l + cy)
      have bs := lo_bd (l + cy)
      have br : 0 ≤ hi (l + cy) ∧ hi (l + cy) ≤ 1 := by unfold hi; omega
      obtain ⟨s1, hs1⟩ : ∃ s1, s1 = lo (l + cy) := ⟨_, rfl⟩
      obtain ⟨r, hr⟩ : ∃ r, r = hi (l + cy) := ⟨_, rfl⟩
      have A1 : ∀ wx, (callFunc 68 #[.int .u64 l, .int .u64 cy, .int .u64 0]).run Try.prog wx = .ok (.value (.tuple #[.int .u64 s1, .int .u64 r])) wx := fun wx => by rw [hs1, hr]; exact add64o l cy blo.1 hcy.1 wx
      rw [← hs1] at e2 bs
      rw [← hr] at e2 br
      have R := tp_step hlt HNL.out hml hmd hm hsame hcy hv hx elh e2 bs b1.1 br.1
      have HR := (show Hid _ from R)
      have bt : h + r < 18446744073709551616 := R.2.2.2.1.2
      have HB := (show Hid _ from hbM.set k s1)
      have HG := (show Hid _ from grown_trans hgr (grown_set wr g k (.int .u64 s1)))
      clear hx hml hmd hsame hv R hbM hL hblk hgr hh hll hs1 hr elh e2 bhi
      go_wp2_with fail
      refine (HMul.out _).mono ?_
      rintro e w' ⟨rfl, rfl⟩
      go_wp2
      go_roundw
      case rel => exact ⟨k + 1, by omega, by go_num, _, _, rfl, HB.out, HR.out.1, HR.out.2.1, HR.out.2.2.1, HR.out.2.2.2.1, HR.out.2.2.2.2, HG.out⟩
      case measure => simp [intOf]; omega
    · obtain rfl : k = n := by omega
      rw [vs_all _ M (by have := HNL.out; omega), vs_all _ L (by have := HNL.out; omega)] at hv
      have HV : Hid (val 18446744073709551616 M + 18446744073709551616 ^ k * cy = m * val 18446744073709551616 L + c) := hv
      have HL2 : Hid (M.length = k) := hml.trans HNL.out.symm
      clear hv hml
      go_wp2
      go_end0
      exact ⟨M, cy, rfl, hbM, hmd, HL2.out, hcy.1, HV.out, hgr⟩
end Go.Proofs.Ytnioobiodiofiab

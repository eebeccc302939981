/-
  The contract of mont's addTimes: a number times a word, added in its place, with room for it.
-/
import Derived.Test.YtnioobiodiofiabRing
namespace Go.Proofs.Ytnioobiodiofiab
open Go.RowKit

theorem at_step2 {L M : List Int} {o n k : Nat} {ys : List Int} {cy m x y z c : Int} (hk : k < n) (hon : o + n ≤ L.length) (hml : M.length = L.length) (hmd : Digs 18446744073709551616 M) (hyd : Digs 18446744073709551616 ys) (hm : 0 ≤ m ∧ m < 18446744073709551616)
    (hsame : ∀ j, j < o ∨ o + k ≤ j → M.getD j 0 = L.getD j 0) (hc : 0 ≤ cy ∧ cy < 18446744073709551616)
    (hv : vs 18446744073709551616 (fun i => M.getD (o + i) 0) k + 18446744073709551616 ^ k * cy = vs 18446744073709551616 (fun i => L.getD (o + i) 0) k + m * vs 18446744073709551616 (fun i => ys.getD i 0) k)
    (hx : x = M.getD (o + k) 0) (hy : y = ys.getD k 0) (et : z + 18446744073709551616 * c = y * m + x + cy) (bz : 0 ≤ z ∧ z < 18446744073709551616) (bc : 0 ≤ c) :
    (M.set (o + k) z).length = L.length ∧ Digs 18446744073709551616 (M.set (o + k) z) ∧
    (∀ j, j < o ∨ o + (k + 1) ≤ j → (M.set (o + k) z).getD j 0 = L.getD j 0) ∧ (0 ≤ c ∧ c < 18446744073709551616) ∧
    vs 18446744073709551616 (fun i => (M.set (o + k) z).getD (o + i) 0) (k + 1) + 18446744073709551616 ^ (k + 1) * c = vs 18446744073709551616 (fun i => L.getD (o + i) 0) (k + 1) + m * vs 18446744073709551616 (fun i => ys.getD i 0) (k + 1) := by
  have bx : 0 ≤ x ∧ x < 18446744073709551616 := by rw [hx]; exact hmd.getD (by decide) _
  have by' : 0 ≤ y ∧ y < 18446744073709551616 := by rw [hy]; exact hyd.getD (by decide) _
  have hp : y * m ≤ 18446744073709551615 * 18446744073709551615 := Int.mul_le_mul (by omega) (by omega) (by omega) (by omega)
  refine ⟨by simpa using hml, hmd.set _ bz, fun j hj => ?_, ⟨bc, by omega⟩, ?_⟩
  · rw [getD_set_ne (by omega)]; exact hsame j (by omega)
  · have f1 : vs 18446744073709551616 (fun i => (M.set (o + k) z).getD (o + i) 0) k = vs 18446744073709551616 (fun i => M.getD (o + i) 0) k :=
      vs_congr (fun i hi => getD_set_ne (by omega))
    have f2 : (M.set (o + k) z).getD (o + k) 0 = z := getD_set_self (by omega)
    have f3 := hsame (o + k) (by omega)
    simp only [vs]
    rw [f1, f2, ← f3, ← hx, ← hy, Int.pow_succ, Int.mul_assoc, Int.mul_add m]
    generalize (18446744073709551616 : Int) ^ k = P at hv ⊢
    have e6 : P * z + P * (18446744073709551616 * c) = P * (y * m) + P * x + P * cy := by rw [← Int.mul_add, et, Int.mul_add, Int.mul_add]
    have e7 : m * (P * y) = P * (y * m) := by rw [Int.mul_left_comm, Int.mul_comm m y]
    omega

/-- A round of the carry alone. -/
theorem at_step3 {L M : List Int} {o k : Nat} {S cy x : Int} (hon : o + k < L.length) (hml : M.length = L.length) (hmd : Digs 18446744073709551616 M)
    (hsame : ∀ j, j < o ∨ o + k ≤ j → M.getD j 0 = L.getD j 0) (hc : 0 ≤ cy ∧ cy < 18446744073709551616)
    (hv : vs 18446744073709551616 (fun i => M.getD (o + i) 0) k + 18446744073709551616 ^ k * cy = vs 18446744073709551616 (fun i => L.getD (o + i) 0) k + S)
    (hx : x = M.getD (o + k) 0) :
    (M.set (o + k) (lo (x + cy))).length = L.length ∧ Digs 18446744073709551616 (M.set (o + k) (lo (x + cy))) ∧
    (∀ j, j < o ∨ o + (k + 1) ≤ j → (M.set (o + k) (lo (x + cy))).getD j 0 = L.getD j 0) ∧ (0 ≤ hi (x + cy) ∧ hi (x + cy) < 18446744073709551616) ∧
    vs 18446744073709551616 (fun i => (M.set (o + k) (lo (x + cy))).getD (o + i) 0) (k + 1) + 18446744073709551616 ^ (k + 1) * hi (x + cy) = vs 18446744073709551616 (fun i => L.getD (o + i) 0) (k + 1) + S := by
  have bx : 0 ≤ x ∧ x < 18446744073709551616 := by rw [hx]; exact hmd.getD (by decide) _
  refine ⟨by simpa using hml, hmd.set _ (lo_bd _), fun j hj => ?_, ⟨by unfold hi; omega, by unfold hi; omega⟩, ?_⟩
  · rw [getD_set_ne (by omega)]; exact hsame j (by omega)
  · have f1 : vs 18446744073709551616 (fun i => (M.set (o + k) (lo (x + cy))).getD (o + i) 0) k = vs 18446744073709551616 (fun i => M.getD (o + i) 0) k :=
      vs_congr (fun i hi => getD_set_ne (by omega))
    have f2 : (M.set (o + k) (lo (x + cy))).getD (o + k) 0 = lo (x + cy) := getD_set_self (by omega)
    have f3 := hsame (o + k) (by omega)
    have et := lo_hi (x + cy)
    simp only [vs]
    rw [f1, f2, ← f3, ← hx, Int.pow_succ, Int.mul_assoc]
    generalize (18446744073709551616 : Int) ^ k = P at hv ⊢
    have e6 : P * lo (x + cy) + P * (18446744073709551616 * hi (x + cy)) = P * x + P * cy := by rw [← Int.mul_add, et, Int.mul_add]
    omega

/-- Where the sum fits, nothing is carried out of the room. -/
theorem at_room {L M : List Int} {o k np : Nat} {S cy : Int} (hk : k ≤ np) (hmd : Digs 18446744073709551616 M)
    (hc : 0 ≤ cy) (hfit : vs 18446744073709551616 (fun i => L.getD (o + i) 0) np + S < 18446744073709551616 ^ np)
    (hv : vs 18446744073709551616 (fun i => M.getD (o + i) 0) k + 18446744073709551616 ^ k * cy = vs 18446744073709551616 (fun i => L.getD (o + i) 0) k + S) (h0 : cy ≠ 0) : k < np := by
  by_cases h : k < np
  · exact h
  · obtain rfl : k = np := by omega
    have h1 := vs_nonneg (B := 18446744073709551616) (by decide) (f := fun i => M.getD (o + i) 0) (n := k) (fun i _ => (hmd.getD (by decide) _).1)
    have h2 : 18446744073709551616 ^ k * 1 ≤ (18446744073709551616 : Int) ^ k * cy := Int.mul_le_mul_of_nonneg_left (by omega) (Int.le_of_lt (pow_pos' (by decide) _))
    omega

theorem at_end {L M : List Int} {o k np : Nat} {S : Int} (hk : k ≤ np) (hsame : ∀ j, j < o ∨ o + k ≤ j → M.getD j 0 = L.getD j 0)
    (hv : vs 18446744073709551616 (fun i => M.getD (o + i) 0) k + 18446744073709551616 ^ k * 0 = vs 18446744073709551616 (fun i => L.getD (o + i) 0) k + S) :
    vs 18446744073709551616 (fun i => M.getD (o + i) 0) np = vs 18446744073709551616 (fun i => L.getD (o + i) 0) np + S := by
  obtain ⟨r, rfl⟩ : ∃ r, np = k + r := ⟨np - k, by omega⟩
  rw [vs_add, vs_add 18446744073709551616 (fun i => L.getD (o + i) 0)]
  have e : vs 18446744073709551616 (fun i => M.getD (o + (k + i)) 0) r = vs 18446744073709551616 (fun i => L.getD (o + (k + i)) 0) r := vs_congr (fun i hi => hsame _ (by omega))
  rw [e]; omega

set_option maxHeartbeats 1600000 in
theorem maddTimes_any (s : Option Addr) (g o np c : Nat) (L : List Int) (b : Option Addr) (n cb : Nat) (ys : List Int) (m : Int) (w : World) (hs : s = some ⟨g, o, none⟩) (hm : 0 ≤ m ∧ m < 18446744073709551616)
    (hblk : Blk w g L) (hL : Digs 18446744073709551616 L) (hnp : n ≤ np) (hon : o + np ≤ L.length) (hn : np ≤ 100000) (hy : Nums w b n cb ys) (hap : 0 < n → Apart b g)
    (hfit : vs 18446744073709551616 (fun i => L.getD (o + i) 0) np + m * val 18446744073709551616 ys < 18446744073709551616 ^ np) :
    Calls Try.prog 56 #[.slice s np c, .slice b n cb, .int .u64 m] w fun e w' => ∃ M, e = .returned (.tuple #[]) ∧ Blk w' g M ∧ Digs 18446744073709551616 M ∧ M.length = L.length ∧
      (∀ j, j < o ∨ o + np ≤ j → M.getD j 0 = L.getD j 0) ∧
      vs 18446744073709551616 (fun i => M.getD (o + i) 0) np = vs 18446744073709551616 (fun i => L.getD (o + i) 0) np + m * val 18446744073709551616 ys ∧
      w.grownBy w' (some g) := by
  subst hs
  have hyd := hy.digs
  have hyl := hy.hlen
  obtain ⟨S, hS⟩ : ∃ S, S = m * val 18446744073709551616 ys := ⟨_, rfl⟩
  have HF : Hid (vs 18446744073709551616 (fun i => L.getD (o + i) 0) np + S < 18446744073709551616 ^ np) := by rw [hS]; exact hfit
  have HS : Hid (S = m * vs 18446744073709551616 (fun i => ys.getD i 0) n) := by show S = _; rw [vs_all _ ys (by omega)]; exact hS
  rw [← hS]
  clear hfit hS hyl
  go_enter Try.func56, Try.ntmps56
  go_wp2
  go_loopw [6, 14] (fun cv i wr => ∃ k : Nat, k ≤ n ∧ i = .int .i64 k ∧ ∃ M cy, cv = .int .u64 cy ∧ Blk wr g M ∧ M.length = L.length ∧ Digs 18446744073709551616 M ∧
      (∀ j, j < o ∨ o + k ≤ j → M.getD j 0 = L.getD j 0) ∧ (0 ≤ cy ∧ cy < 18446744073709551616) ∧
      vs 18446744073709551616 (fun i => M.getD (o + i) 0) k + 18446744073709551616 ^ k * cy = vs 18446744073709551616 (fun i => L.getD (o + i) 0) k + m * vs 18446744073709551616 (fun i => ys.getD i 0) k ∧
      w.grownBy wr (some g)) (fun _ i _ => n - (intOf i).toNat)
  case atStart => exact ⟨0, Nat.zero_le _, rfl, L, 0, rfl, hblk, rfl, hL, fun _ _ => rfl, by omega, by simp [vs], World.grownBy.refl _ _⟩
  case round =>
    obtain ⟨k, hk, rfl, M, cy, rfl, hbM, hml, hmd, hsame, hcy, hv, hgr⟩ := hrel
    by_cases hlt : k < n
    · obtain ⟨x, hx⟩ : ∃ x, x = M.getD (o + k) 0 := ⟨_, rfl⟩
      obtain ⟨y, hy'⟩ : ∃ y, y = ys.getD k 0 := ⟨_, rfl⟩
      have hc1 : wr.cell? ⟨g, o + k, none⟩ = some (.int .u64 x) := by rw [hx]; exact hbM.cell (by omega)
      have hf1 : wr.frozen? ⟨g, o + k, none⟩ = false := hbM.frozen _
      have hyn := hy.grown hgr hap
      obtain ⟨b2, o2, rfl, hc⟩ := hyn.cells (by omega)
      have hc2 : wr.cell? ⟨b2, o2 + k, none⟩ = some (.int .u64 y) := by rw [hy']; exact hc k hlt
      have bx : 0 ≤ x ∧ x < 18446744073709551616 := by rw [hx]; exact hmd.getD (by decide) _
      have by' : 0 ≤ y ∧ y < 18446744073709551616 := by rw [hy']; exact hyd.getD (by decide) _
      have hki : (k : Int) < (n : Int) := by omega
      have hkp : (k : Int) < (np : Int) := by omega
      have bhi := hi_mul_bd by' hm
      have blo := lo_bd (y * m)
      have elh := lo_hi (y * m)
      obtain ⟨h, hh⟩ : ∃ h, h = hi (y * m) := ⟨_, rfl⟩
      obtain ⟨l, hll⟩ : ∃ l, l = lo (y * m) := ⟨_, rfl⟩
      have HMul : Hid (∀ wx, Calls Try.prog 67 #[.int .u64 y, .int .u64 m] wx fun e w' => e = .returned (.tuple #[.int .u64 h, .int .u64 l]) ∧ w' = wx) := fun wx => by rw [hh, hll]; exact mul64_any y m by' hm wx
      rw [← hh] at bhi elh
      rw [← hll] at blo elh
      have b1 : 0 ≤ h ∧ h ≤ 18446744073709551614 := ⟨bhi.1, bhi.2.1⟩
      have e2 := lo_hi (l + cy)
      have bs := lo_bd (l + cy)
      have br : 0 ≤ hi (l + cy) ∧ hi (l + cy) ≤ 1 := by unfold hi; omega
      obtain ⟨s1, hs1⟩ : ∃ s1, s1 = lo (l + cy) := ⟨_, rfl⟩
      obtain ⟨r, hr⟩ : ∃ r, r = hi (l + cy) := ⟨_, rfl⟩
      have A1 : ∀ wx, (callFunc 68 #[.int .u64 l, .int .u64 cy, .int .u64 0]).run Try.prog wx = .ok (.value (.tuple #[.int .u64 s1, .int .u64 r])) wx := fun wx => by rw [hs1, hr]; exact add64z l cy blo.1 hcy.1 wx
      rw [← hs1] at e2 bs
      rw [← hr] at e2 br
      have e3 := lo_hi (x + s1)
      have bz := lo_bd (x + s1)
      have bt : 0 ≤ hi (x + s1) := by unfold hi; omega
      obtain ⟨t, ht⟩ : ∃ t, t = hi (x + s1) := ⟨_, rfl⟩
      obtain ⟨z, hz⟩ : ∃ z, z = lo (x + s1) := ⟨_, rfl⟩
      have A2 : ∀ wx, (callFunc 68 #[.int .u64 x, .int .u64 s1, .int .u64 0]).run Try.prog wx = .ok (.value (.tuple #[.int .u64 z, .int .u64 t])) wx := fun wx => by rw [ht, hz]; exact add64z x s1 bx.1 bs.1 wx
      rw [← hz] at e3 bz
      rw [← ht] at e3 bt
      have R := at_step2 (z := z) (c := h + r + t) hlt (by omega) hml hmd hyd hm hsame hcy hv hx hy' (by omega) bz (by omega)
      have HR := (show Hid _ from R)
      have bt2 : h + r + t < 18446744073709551616 := R.2.2.2.1.2
      have HB := (show Hid _ from hbM.set (o + k) z)
      have HG := (show Hid _ from grown_trans hgr (grown_set wr g (o + k) (.int .u64 z)))
      clear hx hy' hml hmd hsame hv R hbM hL hon hyd hblk hgr hc hh hll hs1 hr ht hz elh e2 e3 bhi hyn
      go_wp2_with fail
      refine (HMul.out _).mono ?_
      rintro e w' ⟨rfl, rfl⟩
      go_wp2
      go_roundw
      case rel => exact ⟨k + 1, by omega, by go_num, _, _, rfl, HB.out, HR.out.1, HR.out.2.1, HR.out.2.2.1, HR.out.2.2.2.1, HR.out.2.2.2.2, HG.out⟩
      case measure => simp [intOf]; omega
    · obtain rfl : k = n := by omega
      rw [← HS.out] at hv
      have hnk : k ≤ np := hnp
      clear HS hlt hblk hL hyd hy hap hk
      go_wp2
      go_loopw [6, 11] (fun cv i wr => ∃ k : Nat, k ≤ np ∧ i = .int .i64 k ∧ ∃ M cy, cv = .int .u64 cy ∧ Blk wr g M ∧ M.length = L.length ∧ Digs 18446744073709551616 M ∧
          (∀ j, j < o ∨ o + k ≤ j → M.getD j 0 = L.getD j 0) ∧ (0 ≤ cy ∧ cy < 18446744073709551616) ∧
          vs 18446744073709551616 (fun i => M.getD (o + i) 0) k + 18446744073709551616 ^ k * cy = vs 18446744073709551616 (fun i => L.getD (o + i) 0) k + S ∧
          w.grownBy wr (some g)) (fun _ i _ => np - (intOf i).toNat)
      case atStart => exact ⟨k, hnk, rfl, M, cy, rfl, hbM, hml, hmd, hsame, hcy, hv, hgr⟩
      case round =>
        clear hbM hml hmd hsame hcy hv hgr
        obtain ⟨k1, hk1, rfl, N, cz, rfl, hbM, hml, hmd, hsame, hcy, hv, hgr⟩ := hrel
        by_cases h0 : cz = 0
        · subst h0
          have HE := (show Hid _ from at_end hk1 hsame hv)
          have HS2 : Hid (∀ j, j < o ∨ o + np ≤ j → N.getD j 0 = L.getD j 0) := fun j hj => hsame j (by omega)
          have HX := (show Hid _ from And.intro hbM (And.intro hmd (And.intro hml hgr)))
          clear hbM hml hmd hsame hv hgr
          go_wp2
          go_end0
          exact ⟨N, rfl, HX.out.1, HX.out.2.1, HX.out.2.2.1, HS2.out, HE.out, HX.out.2.2.2⟩
        · have hlt : k1 < np := at_room hk1 hmd hcy.1 HF.out hv h0
          obtain ⟨x, hx⟩ : ∃ x, x = N.getD (o + k1) 0 := ⟨_, rfl⟩
          have hc1 : wr.cell? ⟨g, o + k1, none⟩ = some (.int .u64 x) := by rw [hx]; exact hbM.cell (by omega)
          have hf1 : wr.frozen? ⟨g, o + k1, none⟩ = false := hbM.frozen _
          have bx : 0 ≤ x ∧ x < 18446744073709551616 := by rw [hx]; exact hmd.getD (by decide) _
          have hkp : (k1 : Int) < (np : Int) := by omega
          have hne : (cz == 0) = false := by simp [h0]
          have R := at_step3 (by omega) hml hmd hsame hcy hv hx
          obtain ⟨t, ht⟩ : ∃ t, t = hi (x + cz) := ⟨_, rfl⟩
          obtain ⟨z, hz⟩ : ∃ z, z = lo (x + cz) := ⟨_, rfl⟩
          have A2 : ∀ wx, (callFunc 68 #[.int .u64 x, .int .u64 cz, .int .u64 0]).run Try.prog wx = .ok (.value (.tuple #[.int .u64 z, .int .u64 t])) wx := fun wx => by rw [ht, hz]; exact add64z x cz bx.1 hcy.1 wx
          rw [← ht, ← hz] at R
          have HR := (show Hid _ from R)
          have HB := (show Hid _ from hbM.set (o + k1) z)
          have HG := (show Hid _ from grown_trans hgr (grown_set wr g (o + k1) (.int .u64 z)))
          clear hx hml hmd hsame hv R hbM hon hgr ht hz
          go_wp2
          go_roundw
          case rel => exact ⟨k1 + 1, by omega, by go_num, _, _, rfl, HB.out, HR.out.1, HR.out.2.1, HR.out.2.2.1, HR.out.2.2.2.1, HR.out.2.2.2.2, HG.out⟩
          case measure => simp [intOf]; omega
end Go.Proofs.Ytnioobiodiofiab

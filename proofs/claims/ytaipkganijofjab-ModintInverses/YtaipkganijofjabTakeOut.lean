/-
  Contracts of takeTimes and takeOut: a divisor is taken out of limbs as often as it goes.
-/
import Derived.Test.YtaipkganijofjabDivideBy
import Derived.Test.YtaipkganijofjabTakeFrom
import Derived.Test.YtaipkganijofjabMul64
import Derived.Deep.DeepCutAuto
import Derived.Deep.CutBlock
namespace Go.Proofs.Ytaipkganijofjab
open Go.RowKit

theorem add64o (x y : Int) (hx : 0 ≤ x) (hy : 0 ≤ y) (w : World) : (callFunc 107 #[.int .u64 x, .int .u64 y, .int .u64 0]).run Try.prog w =
    .ok (.value (.tuple #[.int .u64 (lo (x + y)), .int .u64 (hi (x + y))])) w := by
  have := add64 x y 0 hx hy (Int.le_refl _) (by decide) w
  simpa using this
theorem sub64o (x y : Int) (hx : 0 ≤ x) (hy : 0 ≤ y) (hy' : y < 18446744073709551616) (w : World) : (callFunc 110 #[.int .u64 x, .int .u64 y, .int .u64 0]).run Try.prog w =
    .ok (.value (.tuple #[.int .u64 (lo (x - y)), .int .u64 (bor x y 0)])) w := by
  have := sub64 x y 0 hx hy hy' (Int.le_refl _) (by decide) w
  simpa using this

theorem tt_step {L M : List Int} {o n k : Nat} {ys : List Int} {cy m x y : Int} (hk : k < n) (hon : o + n ≤ L.length) (hml : M.length = L.length) (hmd : Digs 18446744073709551616 M) (hyd : Digs 18446744073709551616 ys) (hm : 0 ≤ m ∧ m < 18446744073709551616)
    (hsame : ∀ j, j < o ∨ o + k ≤ j → M.getD j 0 = L.getD j 0) (hc : 0 ≤ cy ∧ cy < 18446744073709551616)
    (hv : vs 18446744073709551616 (fun i => M.getD (o + i) 0) k - 18446744073709551616 ^ k * cy = vs 18446744073709551616 (fun i => L.getD (o + i) 0) k - m * vs 18446744073709551616 (fun i => ys.getD i 0) k)
    (hx : x = M.getD (o + k) 0) (hy : y = ys.getD k 0) {h l r s b z : Int} (e1 : l + 18446744073709551616 * h = y * m) (e2 : s + 18446744073709551616 * r = l + cy) (e3 : z - 18446744073709551616 * b = x - s) (_bs : 0 ≤ s ∧ s < 18446744073709551616) (bz : 0 ≤ z ∧ z < 18446744073709551616) (_bh : 0 ≤ h) (_br : 0 ≤ r) (_bb : 0 ≤ b ∧ b ≤ 1) :
    (M.set (o + k) z).length = L.length ∧ Digs 18446744073709551616 (M.set (o + k) z) ∧
    (∀ j, j < o ∨ o + (k + 1) ≤ j → (M.set (o + k) z).getD j 0 = L.getD j 0) ∧ (0 ≤ h + r + b ∧ h + r + b < 18446744073709551616) ∧
    vs 18446744073709551616 (fun i => (M.set (o + k) z).getD (o + i) 0) (k + 1) - 18446744073709551616 ^ (k + 1) * (h + r + b) = vs 18446744073709551616 (fun i => L.getD (o + i) 0) (k + 1) - m * vs 18446744073709551616 (fun i => ys.getD i 0) (k + 1) := by
  have bx : 0 ≤ x ∧ x < 18446744073709551616 := by rw [hx]; exact hmd.getD (by decide) _
  have by' : 0 ≤ y ∧ y < 18446744073709551616 := by rw [hy]; exact hyd.getD (by decide) _
  have hp := hi_mul_bd by' hm
  have et : z - 18446744073709551616 * (h + r + b) = x - y * m - cy := by omega
  refine ⟨by simpa using hml, hmd.set _ bz, fun j hj => ?_, ⟨by omega, by omega⟩, ?_⟩
  · rw [getD_set_ne (by omega)]; exact hsame j (by omega)
  · have f1 : vs 18446744073709551616 (fun i => (M.set (o + k) z).getD (o + i) 0) k = vs 18446744073709551616 (fun i => M.getD (o + i) 0) k :=
      vs_congr (fun i hi => getD_set_ne (by omega))
    have f2 : (M.set (o + k) z).getD (o + k) 0 = z := getD_set_self (by omega)
    have f3 := hsame (o + k) (by omega)
    simp only [vs]
    rw [f1, f2, ← f3, ← hx, ← hy, Int.pow_succ, Int.mul_assoc, Int.mul_add m]
    generalize (18446744073709551616 : Int) ^ k = P at hv ⊢
    have e6 : P * z - P * (18446744073709551616 * (h + r + b)) = P * x - P * (y * m) - P * cy := by rw [← Int.mul_sub, et, Int.mul_sub, Int.mul_sub]
    have e7 : m * (P * y) = P * (y * m) := by rw [Int.mul_left_comm, Int.mul_comm m y]
    omega

set_option maxHeartbeats 1600000 in
theorem takeTimes_any (g o n c : Nat) (L : List Int) (b : Option Addr) (cb : Nat) (ys : List Int) (m : Int) (w : World) (hm : 0 ≤ m ∧ m < 18446744073709551616)
    (hblk : Blk w g L) (hL : Digs 18446744073709551616 L) (hon : o + (n + 1) ≤ L.length) (hn : n ≤ 10000) (hy : Nums w b n cb ys) (hap : 0 < n → Apart b g) :
    Calls Try.prog 111 #[.slice (some ⟨g, o, none⟩) (n + 1) c, .slice b n cb, .int .u64 m] w fun e w' => ∃ M bw, e = .returned (.int .u64 bw) ∧ Blk w' g M ∧ Digs 18446744073709551616 M ∧ M.length = L.length ∧
      (∀ j, j < o ∨ o + (n + 1) ≤ j → M.getD j 0 = L.getD j 0) ∧ (0 ≤ bw ∧ bw ≤ 1) ∧
      vs 18446744073709551616 (fun i => M.getD (o + i) 0) (n + 1) - 18446744073709551616 ^ (n + 1) * bw = vs 18446744073709551616 (fun i => L.getD (o + i) 0) (n + 1) - m * vs 18446744073709551616 (fun i => ys.getD i 0) n ∧
      w.grownBy w' (some g) := by
  have hyd := hy.digs
  go_enter Try.func111, Try.ntmps111
  go_wp2
  go_loopw [7, 8, 15] (fun cv bv i wr => ∃ k : Nat, k ≤ n ∧ i = .int .i64 k ∧ ∃ M cy, cv = .int .u64 cy ∧ Blk wr g M ∧ M.length = L.length ∧ Digs 18446744073709551616 M ∧
      (∀ j, j < o ∨ o + k ≤ j → M.getD j 0 = L.getD j 0) ∧ (0 ≤ cy ∧ cy < 18446744073709551616) ∧
      vs 18446744073709551616 (fun i => M.getD (o + i) 0) k - 18446744073709551616 ^ k * cy = vs 18446744073709551616 (fun i => L.getD (o + i) 0) k - m * vs 18446744073709551616 (fun i => ys.getD i 0) k ∧
      w.grownBy wr (some g)) (fun _ _ i _ => n - (intOf i).toNat)
  case atStart => exact ⟨0, Nat.zero_le _, rfl, L, 0, rfl, hblk, rfl, hL, fun _ _ => rfl, by omega, by simp [vs], World.grownBy.refl _ _⟩
  case round =>
    obtain ⟨k, hk, rfl, M, cy, rfl, hbM, hml, hmd, hsame, hcy, hv, hgr⟩ := hrel
    by_cases hlt : k < n
    · obtain ⟨x, hx⟩ : ∃ x, x = M.getD (o + k) 0 := ⟨_, rfl⟩
      obtain ⟨y, hy'⟩ : ∃ y, y = ys.getD k 0 := ⟨_, rfl⟩
      have hc1 : wr.cell? ⟨g, o + k, none⟩ = some (.int .u64 x) := by rw [hx]; exact hbM.cell (by omega)
      have hf1 : wr.frozen? ⟨g, o + k, none⟩ = false := hbM.frozen _
      have hyn := hy.grown hgr hap
      obtain ⟨b2, o2, rfl, hc⟩ := hyn.cells (by omega)
      have hc2 : wr.cell? ⟨b2, o2 + k, none⟩ = some (.int .u64 y) := by rw [hy']; exact hc k hlt
      have bx : 0 ≤ x ∧ x < 18446744073709551616 := by rw [hx]; exact hmd.getD (by decide) _
      have by' : 0 ≤ y ∧ y < 18446744073709551616 := by rw [hy']; exact hyd.getD (by decide) _
      have hki : (k : Int) < (n : Int) := by omega
      have hkp : (k : Int) < (n : Int) + 1 := by omega
      have bhi := hi_mul_bd by' hm
      have blo := lo_bd (y * m)
      have elh := lo_hi (y * m)
      obtain ⟨h, hh⟩ : ∃ h, h = hi (y * m) := ⟨_, rfl⟩
      obtain ⟨l, hll⟩ : ∃ l, l = lo (y * m) := ⟨_, rfl⟩
      have HMul : Hid (∀ wx, Calls Try.prog 106 #[.int .u64 y, .int .u64 m] wx fun e w' => e = .returned (.tuple #[.int .u64 h, .int .u64 l]) ∧ w' = wx) := fun wx => by rw [hh, hll]; exact mul64_any y m by' hm wx
      rw [← hh] at bhi elh
      rw [← hll] at blo elh
      have b1 : 0 ≤ h ∧ h ≤ 18446744073709551614 := ⟨bhi.1, bhi.2.1⟩
      have e2 := lo_hi (l + cy)
      have bs := lo_bd (l + cy)
      have br : 0 ≤ hi (l + cy) ∧ hi (l + cy) ≤ 1 := by unfold hi; omega
      obtain ⟨s1, hs1⟩ : ∃ s1, s1 = lo (l + cy) := ⟨_, rfl⟩
      obtain ⟨r, hr⟩ : ∃ r, r = hi (l + cy) := ⟨_, rfl⟩
      have A1 : ∀ wx, (callFunc 107 #[.int .u64 l, .int .u64 cy, .int .u64 0]).run Try.prog wx = .ok (.value (.tuple #[.int .u64 s1, .int .u64 r])) wx := fun wx => by rw [hs1, hr]; exact add64o l cy blo.1 hcy.1 wx
      rw [← hs1] at e2 bs
      rw [← hr] at e2 br
      have e3 := lo_bor bx bs (b := 0) (by omega)
      have bz := lo_bd (x - s1)
      have bb := bor_bd x s1 0
      rw [Int.sub_zero] at e3
      obtain ⟨z, hz⟩ : ∃ z, z = lo (x - s1) := ⟨_, rfl⟩
      obtain ⟨t, ht⟩ : ∃ t, t = bor x s1 0 := ⟨_, rfl⟩
      have A2 : ∀ wx, (callFunc 110 #[.int .u64 x, .int .u64 s1, .int .u64 0]).run Try.prog wx = .ok (.value (.tuple #[.int .u64 z, .int .u64 t])) wx := fun wx => by rw [hz, ht]; exact sub64o x s1 bx.1 bs.1 bs.2 wx
      rw [← hz] at e3 bz
      rw [← ht] at e3 bb
      have R := tt_step hlt (by omega) hml hmd hyd hm hsame hcy hv hx hy' elh e2 e3 bs bz b1.1 br.1 bb
      have HR := (show Hid _ from R)
      have bt : h + r + t < 18446744073709551616 ∧ h + r < 18446744073709551616 := ⟨R.2.2.2.1.2, by have := R.2.2.2.1.2; omega⟩
      have HB := (show Hid _ from hbM.set (o + k) z)
      have HG := (show Hid _ from grown_trans hgr (grown_set wr g (o + k) (.int .u64 z)))
      clear hx hy' hml hmd hsame hv R hbM hL hon hyd hblk hgr hc hh hll hs1 hr ht hz elh e2 e3 bhi hyn
      go_wp2_with fail
      refine (HMul.out _).mono ?_
      rintro e w' ⟨rfl, rfl⟩
      go_wp2
      go_roundw
      case rel => exact ⟨k + 1, by omega, by go_num, _, _, rfl, HB.out, HR.out.1, HR.out.2.1, HR.out.2.2.1, HR.out.2.2.2.1, HR.out.2.2.2.2, HG.out⟩
      case measure => simp [intOf]; omega
    · obtain rfl : k = n := by omega
      obtain ⟨x, hx⟩ : ∃ x, x = M.getD (o + k) 0 := ⟨_, rfl⟩
      have hc1 : wr.cell? ⟨g, o + k, none⟩ = some (.int .u64 x) := by rw [hx]; exact hbM.cell (by omega)
      have hf1 : wr.frozen? ⟨g, o + k, none⟩ = false := hbM.frozen _
      have bx : 0 ≤ x ∧ x < 18446744073709551616 := by rw [hx]; exact hmd.getD (by decide) _
      have e3 := lo_bor bx hcy (b := 0) (by omega)
      have bz := lo_bd (x - cy)
      have bb := bor_bd x cy 0
      rw [Int.sub_zero] at e3
      obtain ⟨z, hz⟩ : ∃ z, z = lo (x - cy) := ⟨_, rfl⟩
      obtain ⟨t, ht⟩ : ∃ t, t = bor x cy 0 := ⟨_, rfl⟩
      have A2 : ∀ wx, (callFunc 110 #[.int .u64 x, .int .u64 cy, .int .u64 0]).run Try.prog wx = .ok (.value (.tuple #[.int .u64 z, .int .u64 t])) wx := fun wx => by rw [hz, ht]; exact sub64o x cy bx.1 hcy.1 hcy.2 wx
      rw [← hz] at e3 bz
      rw [← ht] at e3 bb
      have hfin : vs 18446744073709551616 (fun i => (M.set (o + k) z).getD (o + i) 0) (k + 1) - 18446744073709551616 ^ (k + 1) * t = vs 18446744073709551616 (fun i => L.getD (o + i) 0) (k + 1) - m * vs 18446744073709551616 (fun i => ys.getD i 0) k := by
        have f1 : vs 18446744073709551616 (fun i => (M.set (o + k) z).getD (o + i) 0) k = vs 18446744073709551616 (fun i => M.getD (o + i) 0) k := vs_congr (fun i hi => getD_set_ne (by omega))
        have f2 : (M.set (o + k) z).getD (o + k) 0 = z := getD_set_self (by omega)
        have f3 := hsame (o + k) (by omega)
        simp only [vs]
        rw [f1, f2, ← f3, ← hx, Int.pow_succ, Int.mul_assoc]
        generalize (18446744073709551616 : Int) ^ k = P at hv ⊢
        have e6 : P * z - P * (18446744073709551616 * t) = P * x - P * cy := by rw [← Int.mul_sub, e3, Int.mul_sub]
        omega
      have HF := (show Hid _ from hfin)
      have HP : Hid (Digs 18446744073709551616 (M.set (o + k) z) ∧ (M.set (o + k) z).length = L.length ∧ (∀ j, j < o ∨ o + (k + 1) ≤ j → (M.set (o + k) z).getD j 0 = L.getD j 0)) := ⟨hmd.set _ bz, by simpa using hml, fun j hj => by rw [getD_set_ne (by omega)]; exact hsame j (by omega)⟩
      have HB := (show Hid _ from hbM.set (o + k) z)
      have HG := (show Hid _ from grown_trans hgr (grown_set wr g (o + k) (.int .u64 z)))
      clear hx hml hmd hsame hv hfin hbM hL hon hyd hblk hgr hz ht e3
      go_wp2
      go_ret
      exact ⟨_, t, rfl, HB.out, HP.out.1, HP.out.2.1, HP.out.2.2, bb, HF.out, HG.out⟩

/-- The guess of a digit is not below it. -/
theorem guess_ge {W D : Int} {n : Nat} {wn w1 d1 q : Int} (hD : d1 * 18446744073709551616 ^ n ≤ D) (hW : W < (wn * 18446744073709551616 + w1 + 1) * 18446744073709551616 ^ n) (hq : q * D ≤ W) (hq0 : 0 ≤ q) : q * d1 ≤ wn * 18446744073709551616 + w1 := by
  have hp := pow_pos' (B := 18446744073709551616) (by decide) n
  by_cases hc : q * d1 ≤ wn * 18446744073709551616 + w1
  · exact hc
  · have f1 : q * (d1 * 18446744073709551616 ^ n) ≤ q * D := Int.mul_le_mul_of_nonneg_left hD hq0
    have f2 : (wn * 18446744073709551616 + w1 + 1) * 18446744073709551616 ^ n ≤ q * d1 * 18446744073709551616 ^ n := Int.mul_le_mul_of_nonneg_right (by omega) (by omega)
    rw [Int.mul_assoc] at f2
    omega

theorem guess_le {q d r x g : Int} (e : x = g * d + r) (hr : r < d) (hd : 0 < d) (h : q * d ≤ x) : q ≤ g := by
  by_cases hc : q ≤ g
  · exact hc
  · have : (g + 1) * d ≤ q * d := Int.mul_le_mul_of_nonneg_right (by omega) (by omega)
    rw [Int.add_mul] at this
    omega

theorem div64_bd {h lw y : Int} (hh : 0 ≤ h) (hl : 0 ≤ lw ∧ lw < 18446744073709551616) (hhy : h < y) : (h * 18446744073709551616 + lw) / y < 18446744073709551616 := by
  refine Int.ediv_lt_of_lt_mul (by omega) ?_
  have : (h + 1) * 18446744073709551616 ≤ y * 18446744073709551616 := Int.mul_le_mul_of_nonneg_right (by omega) (by omega)
  omega

/-- Where the loop of takeOut stands: the true digit is not above the guess. -/
structure Owed (W D P q X debt gs : Int) : Prop where
  eq : X - P * debt = W - gs * D
  x : 0 ≤ X ∧ X < P
  d : 0 ≤ debt ∧ debt ≤ 1
  g : q ≤ gs ∧ gs < 18446744073709551616

theorem Owed.pos {W D P q X debt gs : Int} (h : Owed W D P q X debt gs) (hd : 0 < debt) (hq : q * D ≤ W) (hq0 : 0 ≤ q) : debt = 1 ∧ q + 1 ≤ gs ∧ 1 ≤ gs := by
  have h1 := h.d
  have e : debt = 1 := by omega
  subst e
  have h2 := h.eq
  have h3 := h.x
  have : q + 1 ≤ gs := by
    by_cases hc : q + 1 ≤ gs
    · exact hc
    · have hg := h.g
      have : gs = q := by omega
      subst this; omega
  exact ⟨rfl, this, by omega⟩

theorem Owed.zero {W D P q X gs : Int} (h : Owed W D P q X 0 gs) (hD : 0 < D) (hup : W < (q + 1) * D) : gs = q ∧ X = W - q * D := by
  have h2 := h.eq
  have h3 := h.x
  have hg := h.g
  have : gs ≤ q := by
    by_cases hc : gs ≤ q
    · exact hc
    · have : (q + 1) * D ≤ gs * D := Int.mul_le_mul_of_nonneg_right (by omega) (by omega)
      omega
  have e : gs = q := by omega
  subst e
  exact ⟨rfl, by omega⟩

set_option maxHeartbeats 1600000 in
theorem takeOut_any (g o n c : Nat) (L : List Int) (b : Option Addr) (cb : Nat) (ys : List Int) (w : World)
    (hblk : Blk w g L) (hL : Digs 18446744073709551616 L) (hon : o + (n + 2) ≤ L.length) (hn : n ≤ 1000) (hy : Nums w b (n + 1) cb ys) (hap : Apart b g) (hpos : 0 < val 18446744073709551616 ys)
    (hlt : vs 18446744073709551616 (fun i => L.getD (o + i) 0) (n + 2) < 18446744073709551616 * val 18446744073709551616 ys) :
    Calls Try.prog 104 #[.slice (some ⟨g, o, none⟩) (n + 2) c, .slice b (n + 1) cb] w fun e w' => ∃ M q, e = .returned (.int .u64 q) ∧ Blk w' g M ∧ Digs 18446744073709551616 M ∧ M.length = L.length ∧
      (∀ j, j < o ∨ o + (n + 2) ≤ j → M.getD j 0 = L.getD j 0) ∧ (0 ≤ q ∧ q < 18446744073709551616) ∧
      vs 18446744073709551616 (fun i => L.getD (o + i) 0) (n + 2) = q * val 18446744073709551616 ys + vs 18446744073709551616 (fun i => M.getD (o + i) 0) (n + 2) ∧ vs 18446744073709551616 (fun i => M.getD (o + i) 0) (n + 2) < val 18446744073709551616 ys ∧
      w.grownBy w' (some g) := by
  have hyd := hy.digs
  have hyl := hy.hlen
  obtain ⟨W, hWd⟩ : ∃ W, W = vs 18446744073709551616 (fun i => L.getD (o + i) 0) (n + 2) := ⟨_, rfl⟩
  obtain ⟨D, hDd⟩ : ∃ D, D = val 18446744073709551616 ys := ⟨_, rfl⟩
  rw [← hWd, ← hDd] at hlt
  rw [← hDd] at hpos
  have hW0 : 0 ≤ W := by rw [hWd]; exact vs_nonneg (by decide) (fun i _ => (hL.getD (by decide) _).1)
  obtain ⟨q, hqd⟩ : ∃ q, q = W / D := ⟨_, rfl⟩
  have hq0 : 0 ≤ q := by rw [hqd]; exact Int.ediv_nonneg hW0 (by omega)
  have hqm := Int.emod_add_mul_ediv W D
  have hqr0 := Int.emod_nonneg W (show D ≠ 0 by omega)
  have hqr1 := Int.emod_lt_of_pos W hpos
  rw [← hqd, Int.mul_comm] at hqm
  have hql : q * D ≤ W := by omega
  have hqu : W < (q + 1) * D := by rw [Int.add_mul]; omega
  have hqB : q < 18446744073709551616 := by
    by_cases hc : q < 18446744073709551616
    · exact hc
    · have : 18446744073709551616 * D ≤ q * D := Int.mul_le_mul_of_nonneg_right (by omega) (by omega)
      omega
  obtain ⟨wn, hwn⟩ : ∃ x, x = L.getD (o + (n + 1)) 0 := ⟨_, rfl⟩
  obtain ⟨w1, hw1⟩ : ∃ x, x = L.getD (o + n) 0 := ⟨_, rfl⟩
  obtain ⟨d1, hd1⟩ : ∃ x, x = ys.getD n 0 := ⟨_, rfl⟩
  have bwn : 0 ≤ wn ∧ wn < 18446744073709551616 := by rw [hwn]; exact hL.getD (by decide) _
  have bw1 : 0 ≤ w1 ∧ w1 < 18446744073709551616 := by rw [hw1]; exact hL.getD (by decide) _
  have bd1 : 0 ≤ d1 ∧ d1 < 18446744073709551616 := by rw [hd1]; exact hyd.getD (by decide) _
  have hDge : d1 * 18446744073709551616 ^ n ≤ D := by
    rw [hDd, hd1, ← vs_all 18446744073709551616 ys (n := n + 1) (by omega), Int.mul_comm]
    have := vs_nonneg (B := 18446744073709551616) (f := fun i => ys.getD i 0) (n := n) (by decide) (fun i _ => (hyd.getD (by decide) _).1)
    simp only [vs]; omega
  have hWlt : W < (wn * 18446744073709551616 + w1 + 1) * 18446744073709551616 ^ n := by
    have f1 := vs_lt (B := 18446744073709551616) (f := fun i => L.getD (o + i) 0) (n := n) (by decide) (fun i _ => hL.getD (by decide) _)
    rw [hWd]
    simp only [vs]
    rw [← hwn, ← hw1, Int.pow_succ, Int.add_mul, Int.add_mul, Int.mul_assoc (18446744073709551616 ^ n), Int.mul_comm (18446744073709551616 ^ n) (18446744073709551616 * wn), Int.mul_comm 18446744073709551616 wn, Int.mul_comm (18446744073709551616 ^ n) w1]
    omega
  have HDat : Hid (W = vs 18446744073709551616 (fun i => L.getD (o + i) 0) (n + 2) ∧ D = val 18446744073709551616 ys ∧ q * D ≤ W ∧ W < (q + 1) * D ∧ W - q * D < D) := ⟨hWd, hDd, hql, hqu, by rw [Int.add_mul] at hqu; omega⟩
  have HGe : Hid (q * d1 ≤ wn * 18446744073709551616 + w1) := guess_ge hDge hWlt hql hq0
  obtain ⟨b2, o2, rfl, hc⟩ := hy.cells (by omega)
  have hcn : w.cell? ⟨g, o + (n + 1), none⟩ = some (.int .u64 wn) := by rw [hwn]; exact hblk.cell (by omega)
  have hc1 : w.cell? ⟨g, o + n, none⟩ = some (.int .u64 w1) := by rw [hw1]; exact hblk.cell (by omega)
  have hcd : w.cell? ⟨b2, o2 + n, none⟩ = some (.int .u64 d1) := by rw [hd1]; exact hc n (by omega)
  have HC : Hid (w.cell? ⟨g, o + (n + 1), none⟩ = some (.int .u64 wn) ∧ w.cell? ⟨g, o + n, none⟩ = some (.int .u64 w1) ∧ w.cell? ⟨b2, o2 + n, none⟩ = some (.int .u64 d1)) := ⟨hcn, hc1, hcd⟩
  clear hWd hDd hqd hqm hqr0 hqr1 hql hqu hwn hw1 hd1 hDge hWlt hlt hW0 hc
  have hi1 : (n : Int) + 1 < (n : Int) + 2 := by omega
  have hi2 : (n : Int) < (n : Int) + 2 := by omega
  have hi3 : (n : Int) < (n : Int) + 1 := by omega
  have hnn : 0 ≤ (n : Int) := by omega
  go_enter Try.func104, Try.ntmps104
  go_upto_region 3 with fail
  go_quiet (fail)
  have hbel0 := below_drewN (Below.refl w.heap.size w) nq
  have f1 : (w.drewN nq).cell? ⟨g, o + (n + 1), none⟩ = some (.int .u64 wn) := HC.out.1
  have f2 : (w.drewN nq).cell? ⟨g, o + n, none⟩ = some (.int .u64 w1) := HC.out.2.1
  have f3 : (w.drewN nq).cell? ⟨b2, o2 + n, none⟩ = some (.int .u64 d1) := HC.out.2.2
  have hblk0 : Blk (w.drewN nq) g L := hblk
  have hgr0 := grown_drewN w nq (some g)
  generalize w.drewN nq = w0 at hbel0 f1 f2 f3 hblk0 hgr0 ⊢
  clear hcn hc1 hcd
  go_upto_if 19 with fail
  go_cut [6] (fun gv wx => ∃ gs, gv = .int .u64 gs ∧ (q ≤ gs ∧ gs < 18446744073709551616) ∧ ∃ k, wx = w0.drewN k)
  case first =>
    by_cases hwd : wn < d1
    · have HDv := (show Hid _ from div64_eq wn w1 d1 bwn.1 bw1 hwd bd1.2)
      have hdd := div64_bd bwn.1 bw1 hwd
      have HQ : Hid (q ≤ (wn * 18446744073709551616 + w1) / d1 ∧ (wn * 18446744073709551616 + w1) / d1 < 18446744073709551616) := ⟨(Int.le_ediv_iff_mul_le (by omega)).2 HGe.out, hdd⟩
      clear hdd
      go_wp2
      go_quiet ((go_at_call 102; exact Calls.quiet_of (HDv.out _)))
      go_wp2
      go_meet
      case rel => exact ⟨_, rfl, HQ.out, nq, rfl⟩
    · go_wp2
      go_meet
      case rel => exact ⟨_, rfl, ⟨by omega, by omega⟩, 0, rfl⟩
  case rest =>
    obtain ⟨gs, rfl, hgs, k, rfl⟩ := hcut
    have hblk1 : Blk (w0.drewN k) g L := hblk0
    have hgr1 := grown_trans hgr0 (grown_drewN w0 k (some g))
    generalize w0.drewN k = w1' at hblk1 hgr1 ⊢
    have hy1 := hy.grown hgr1 (fun _ => hap)
    clear hblk0 hgr0 f1 f2 f3 hbel0 HC HGe
    obtain ⟨P, hPd⟩ : ∃ P, P = (18446744073709551616 : Int) ^ (n + 2) := ⟨_, rfl⟩
    have HTT : Hid (Calls Try.prog 111 #[.slice (some ⟨g, o, none⟩) (n + 2) c, .slice (some ⟨b2, o2, none⟩) (n + 1) cb, .int .u64 gs] w1' fun e w' => ∃ M bw, e = .returned (.int .u64 bw) ∧ Blk w' g M ∧ Digs 18446744073709551616 M ∧ M.length = L.length ∧
        (∀ j, j < o ∨ o + (n + 2) ≤ j → M.getD j 0 = L.getD j 0) ∧ Owed W D P q (vs 18446744073709551616 (fun i => M.getD (o + i) 0) (n + 2)) bw gs ∧ w1'.grownBy w' (some g)) := by
      refine (takeTimes_any g o (n + 1) c L (some ⟨b2, o2, none⟩) cb ys gs w1' ⟨by omega, hgs.2⟩ hblk1 hL (by omega) (by omega) hy1 (fun _ => hap)).mono ?_
      rintro e w' ⟨M, bw, rfl, h1, h2, h3, h4, h5, h6, h7⟩
      refine ⟨M, bw, rfl, h1, h2, h3, h4, ⟨?_, ⟨vs_nonneg (by decide) (fun i _ => (h2.getD (by decide) _).1), ?_⟩, h5, hgs⟩, h7⟩
      · rw [vs_all _ ys (by omega)] at h6
        rw [HDat.out.1, hPd, HDat.out.2.1]; exact h6
      · rw [hPd]; exact vs_lt (by decide) (fun i _ => h2.getD (by decide) _)
    have hDv : Hid (vs 18446744073709551616 (fun i => ys.getD i 0) (n + 2) = D) := by rw [HDat.out.2.1]; exact vs_all _ ys (by omega)
    have hP0 : 0 < P := by rw [hPd]; exact pow_pos' (by decide) _
    have HPd : Hid (P = (18446744073709551616 : Int) ^ (n + 2)) := hPd
    clear hPd hblk1
    go_wp2_with fail
    refine HTT.out.mono ?_
    rintro e w2 ⟨M0, bw, rfl, hb2, hM0d, hM0l, hM0s, how, hg2⟩
    have HO : Hid (Owed W D P q (vs 18446744073709551616 (fun i => M0.getD (o + i) 0) (n + 2)) bw gs) := how
    have hgr2 := grown_trans hgr1 hg2
    clear how hg2 HTT hy1 hgr1
    go_wp2
    go_loopw [6, 7] (fun gv dv wr => ∃ gs debt M, gv = .int .u64 gs ∧ dv = .int .u64 debt ∧ Blk wr g M ∧ Digs 18446744073709551616 M ∧ M.length = L.length ∧ (∀ j, j < o ∨ o + (n + 2) ≤ j → M.getD j 0 = L.getD j 0) ∧
        Owed W D P q (vs 18446744073709551616 (fun i => M.getD (o + i) 0) (n + 2)) debt gs ∧ w.grownBy wr (some g)) (fun gv _ _ => (intOf gv).toNat)
    case atStart => exact ⟨_, _, M0, rfl, rfl, hb2, hM0d, hM0l, hM0s, HO.out, hgr2⟩
    case round =>
      obtain ⟨gs, debt, M, rfl, rfl, hbM, hMd, hMl, hMs, how, hgr⟩ := hrel
      have hd01 := how.d
      have hg01 := how.g
      have HOw : Hid (Owed W D P q (vs 18446744073709551616 (fun i => M.getD (o + i) 0) (n + 2)) debt gs) := how
      clear how
      by_cases hd : 0 < debt
      · obtain ⟨rfl, hq1, hg1⟩ := HOw.out.pos hd HDat.out.2.2.1 hq0
        have hyr := hy.grown hgr (fun _ => hap)
        have HAd : Hid (Calls Try.prog 98 #[.slice (some ⟨g, o, none⟩) (n + 2) c, .slice (some ⟨b2, o2, none⟩) (n + 1) cb] wr fun e w' => ∃ N cy, e = .returned (.int .u64 cy) ∧ (0 ≤ cy ∧ cy ≤ 1) ∧ Blk w' g N ∧ Digs 18446744073709551616 N ∧ N.length = L.length ∧
            (∀ j, j < o ∨ o + (n + 2) ≤ j → N.getD j 0 = L.getD j 0) ∧ Owed W D P q (vs 18446744073709551616 (fun i => N.getD (o + i) 0) (n + 2)) (1 - cy) (gs - 1) ∧ wr.grownBy w' (some g)) := by
          refine (addTo_any (some ⟨g, o, none⟩) g o (n + 2) c M (some ⟨b2, o2, none⟩) (n + 1) cb ys wr (fun _ => rfl) hbM hMd (by omega) (by omega) hyr (fun _ => hap)).mono ?_
          rintro e w' ⟨N, cy, rfl, h1, h2, h3, h4, h5, h6, h7⟩
          rw [hDv.out, ← HPd.out] at h6
          refine ⟨N, cy, rfl, h5, h1, h2, h3.trans hMl, fun j hj => (h4 j hj).trans (hMs j hj), ⟨?_, ⟨vs_nonneg (by decide) (fun i _ => (h2.getD (by decide) _).1), ?_⟩, by omega, by omega⟩, h7⟩
          · have e1 := HOw.out.eq
            rw [Int.mul_sub, Int.sub_mul]
            omega
          · rw [HPd.out]; exact vs_lt (by decide) (fun i _ => h2.getD (by decide) _)
        clear hbM hMd hMl hMs hyr
        go_wp2_with fail
        refine HAd.out.mono ?_
        rintro e w3 ⟨N, cy, rfl, hcy, h1, h2, h3, h4, h5, h7⟩
        have HN : Hid (Owed W D P q (vs 18446744073709551616 (fun i => N.getD (o + i) 0) (n + 2)) (1 - cy) (gs - 1)) := h5
        have hgr3 := grown_trans hgr h7
        clear h5 h7 HAd hgr
        go_wp2
        go_roundw
        case rel => exact ⟨_, _, N, rfl, rfl, h1, h2, h3, h4, HN.out, hgr3⟩
        case measure => simp [intOf]; omega
      · obtain rfl : debt = 0 := by omega
        obtain ⟨e1, e2⟩ := HOw.out.zero hpos HDat.out.2.2.2.1
        have HE : Hid (gs = q ∧ vs 18446744073709551616 (fun i => M.getD (o + i) 0) (n + 2) = W - q * D) := ⟨e1, e2⟩
        clear e1 e2
        go_wp2
        go_ret
        have hA : vs 18446744073709551616 (fun i => L.getD (o + i) 0) (n + 2) = gs * val 18446744073709551616 ys + vs 18446744073709551616 (fun i => M.getD (o + i) 0) (n + 2) := by
          rw [← HDat.out.1, HE.out.2, HE.out.1, ← HDat.out.2.1]; omega
        have hB : vs 18446744073709551616 (fun i => M.getD (o + i) 0) (n + 2) < val 18446744073709551616 ys := by
          rw [HE.out.2, ← HDat.out.2.1]; exact HDat.out.2.2.2.2
        exact ⟨M, gs, rfl, hbM, hMd, hMl, hMs, ⟨by omega, hg01.2⟩, hA, hB, hgr⟩
end Go.Proofs.Ytaipkganijofjab

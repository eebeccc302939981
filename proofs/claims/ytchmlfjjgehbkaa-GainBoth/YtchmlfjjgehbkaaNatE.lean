/-
  Contracts of takeTimes and takeOut: a divisor is taken out of limbs as often as it goes.
  The contract of longDivision: Knuth's division of a number by one of two limbs or more.
  The contract of nat.Div: the quotient and the rest of two numbers.
-/
import Derived.Test.YtchmlfjjgehbkaaNatD
import Derived.Test.YtchmlfjjgehbkaaNatC
import Derived.Test.YtchmlfjjgehbkaaNatB
import Derived.Deep.DeepCutAuto
import Derived.Deep.CutBlock
namespace Go.Proofs.Ytchmlfjjgehbkaa
open Go.RowKit

theorem add64o (x y : Int) (hx : 0 ≤ x) (hy : 0 ≤ y) (w : World) : (callFunc 101 #[.int .u64 x, .int .u64 y, .int .u64 0]).run Try.prog w =
    .ok (.value (.tuple #[.int .u64 (lo (x + y)), .int .u64 (hi (x + y))])) w := by
  have := add64 x y 0 hx hy (Int.le_refl _) (by decide) w
  simpa using this
theorem sub64o (x y : Int) (hx : 0 ≤ x) (hy : 0 ≤ y) (hy' : y < 18446744073709551616) (w : World) : (callFunc 99 #[.int .u64 x, .int .u64 y, .int .u64 0]).run Try.prog w =
    .ok (.value (.tuple #[.int .u64 (lo (x - y)), .int .u64 (bor x y 0)])) w := by
  have := sub64 x y 0 hx hy hy' (Int.le_refl _) (by decide) w
  simpa using this

theorem tt_step {L M : List Int} {o n k : Nat} {ys : List Int} {cy m x y : Int} (hk : k < n) (hon : o + n ≤ L.length) (hml : M.length = L.length) (hmd : Digs 18446744073709551616 M) (hyd : Digs 18446744073709551616 ys) (hm : 0 ≤ m ∧ m < 18446744073709551616)
    (hsame : ∀ j, j < o ∨ o + k ≤ j → M.getD j 0 = L.getD j 0) (hc : 0 ≤ cy ∧ cy < 18446744073709551616)
    (hv : vs 18446744073709551616 (fun i => M.getD (o + i) 0) k - 18446744073709551616 ^ k * cy = vs 18446744073709551616 (fun i => L.getD (o + i) 0) k - m * vs 18446744073709551616 (fun i => ys.getD i 0) k)
    (hx : x = M.getD (o + k) 0) (hy : y = ys.getD k 0) {h l r s b z : Int} (e1 : l + 18446744073709551616 * h = y * m) (e2 : s + 18446744073709551616 * r = l + cy) (e3 : z - 18446744073709551616 * b = x - s) (_bs : 0 ≤ s ∧ s < 18446744073709551616) (bz : 0 ≤ z ∧ z < 18446744073709551616) (_bh : 0 ≤ h) (_br : 0 ≤ r) (_bb : 0 ≤ b ∧ b ≤ 1) :
    (M.set (o + k) z).length = L.length ∧ Digs 18446744073709551616 (M.set (o + k) z) ∧
    (∀ j, j < o ∨ o + (k + 1) ≤ j → (M.set (o + k) z).getD j 0 = L.getD j 0) ∧ (0 ≤ h + r + b ∧ h + r + b < 18446744073709551616) ∧
    vs 18446744073709551616 (fun i => (M.set (o + k) z).getD (o + i) 0) (k + 1) - 18446744073709551616 ^ (k + 1) * (h + r + b) = vs 18446744073709551616 (fun i => L.getD (o + i) 0) (k + 1) - m * vs 18446744073709551616 (fun i => ys.getD i 0) (k + 1) := by
  have bx : 0 ≤ x ∧ x < 18446744073709551616 := by rw [hx]; exact hmd.getD (by decide) _
  have by' : 0 ≤ y ∧ y < 18446744073709551616 := by rw [hy]; exact hyd.getD (by decide) _
  have hp := hi_mul_bd by' hm
  have et : z - 18446744073709551616 * (h + r + b) = x - y * m - cy := by omega
  refine ⟨by simpa using hml, hmd.set _ bz, fun j hj => ?_, ⟨by omega, by omega⟩, ?_⟩
  · rw [getD_set_ne (by omega)]; exact hsame j (by omega)
  · have f1 : vs 18446744073709551616 (fun i => (M.set (o + k) z).getD (o + i) 0) k = vs 18446744073709551616 (fun i => M.getD (o + i) 0) k :=
      vs_congr (fun i hi => getD_set_ne (by omega))
    have f2 : (M.set (o + k) z).getD (o + k) 0 = z := getD_set_self (by omega)
    have f3 := hsame (o + k) (by omega)
    simp only [vs]
    rw [f1, f2, ← f3, ← hx, ← hy, Int.pow_succ, Int.mul_assoc, Int.mul_add m]
    generalize (18446744073709551616 : Int) ^ k = P at hv ⊢
    have e6 : P * z - P * (18446744073709551616 * (h + r + b)) = P * x - P * (y * m) - P * cy := by rw [← Int.mul_sub, et, Int.mul_sub, Int.mul_sub]
    have e7 : m * (P * y) = P * (y * m) := by rw [Int.mul_left_comm, Int.mul_comm m y]
    omega

set_option maxHeartbeats 1600000 in
theorem takeTimes_any (g o n c : Nat) (L : List Int) (b : Option Addr) (cb : Nat) (ys : List Int) (m : Int) (w : World) (hm : 0 ≤ m ∧ m < 18446744073709551616)
    (hblk : Blk w g L) (hL : Digs 18446744073709551616 L) (hon : o + (n + 1) ≤ L.length) (hn : n ≤ 10000) (hy : Nums w b n cb ys) (hap : 0 < n → Apart b g) :
    Calls Try.prog 104 #[.slice (some ⟨g, o, none⟩) (n + 1) c, .slice b n cb, .int .u64 m] w fun e w' => ∃ M bw, e = .returned (.int .u64 bw) ∧ Blk w' g M ∧ Digs 18446744073709551616 M ∧ M.length = L.length ∧
      (∀ j, j < o ∨ o + (n + 1) ≤ j → M.getD j 0 = L.getD j 0) ∧ (0 ≤ bw ∧ bw ≤ 1) ∧
      vs 18446744073709551616 (fun i => M.getD (o + i) 0) (n + 1) - 18446744073709551616 ^ (n + 1) * bw = vs 18446744073709551616 (fun i => L.getD (o + i) 0) (n + 1) - m * vs 18446744073709551616 (fun i => ys.getD i 0) n ∧
      w.grownBy w' (some g) := by
  have hyd := hy.digs
  go_enter Try.func104, Try.ntmps104
  go_wp2
  go_loopw [7, 8, 15] (fun cv bv i wr => ∃ k : Nat, k ≤ n ∧ i = .int .i64 k ∧ ∃ M cy, cv = .int .u64 cy ∧ Blk wr g M ∧ M.length = L.length ∧ Digs 18446744073709551616 M ∧
      (∀ j, j < o ∨ o + k ≤ j → M.getD j 0 = L.getD j 0) ∧ (0 ≤ cy ∧ cy < 18446744073709551616) ∧
      vs 18446744073709551616 (fun i => M.getD (o + i) 0) k - 18446744073709551616 ^ k * cy = vs 18446744073709551616 (fun i => L.getD (o + i) 0) k - m * vs 18446744073709551616 (fun i => ys.getD i 0) k ∧
      w.grownBy wr (some g)) (fun _ _ i _ => n - (intOf i).toNat)
  case atStart => exact ⟨0, Nat.zero_le _, rfl, L, 0, rfl, hblk, rfl, hL, fun _ _ => rfl, by omega, by simp [vs], World.grownBy.refl _ _⟩
  case round =>
    obtain ⟨k, hk, rfl, M, cy, rfl, hbM, hml, hmd, hsame, hcy, hv, hgr⟩ := hrel
    by_cases hlt : k < n
    · obtain ⟨x, hx⟩ : ∃ x, x = M.getD (o + k) 0 := ⟨_, rfl⟩
      obtain ⟨y, hy'⟩ : ∃ y, y = ys.getD k 0 := ⟨_, rfl⟩
      have hc1 : wr.cell? ⟨g, o + k, none⟩ = some (.int .u64 x) := by rw [hx]; exact hbM.cell (by omega)
      have hf1 : wr.frozen? ⟨g, o + k, none⟩ = false := hbM.frozen _
      have hyn := hy.grown hgr hap
      obtain ⟨b2, o2, rfl, hc⟩ := hyn.cells (by omega)
      have hc2 : wr.cell? ⟨b2, o2 + k, none⟩ = some (.int .u64 y) := by rw [hy']; exact hc k hlt
      have bx : 0 ≤ x ∧ x < 18446744073709551616 := by rw [hx]; exact hmd.getD (by decide) _
      have by' : 0 ≤ y ∧ y < 18446744073709551616 := by rw [hy']; exact hyd.getD (by decide) _
      have hki : (k : Int) < (n : Int) := by omega
      have hkp : (k : Int) < (n : Int) + 1 := by omega
      have bhi := hi_mul_bd by' hm
      have blo := lo_bd (y * m)
      have elh := lo_hi (y * m)
      obtain ⟨h, hh⟩ : ∃ h, h = hi (y * m) := ⟨_, rfl⟩
      obtain ⟨l, hll⟩ : ∃ l, l = lo (y * m) := ⟨_, rfl⟩
      have HMul : Hid (∀ wx, Calls Try.prog 105 #[.int .u64 y, .int .u64 m] wx fun e w' => e = .returned (.tuple #[.int .u64 h, .int .u64 l]) ∧ w' = wx) := fun wx => by rw [hh, hll]; exact mul64_any y m by' hm wx
      rw [← hh] at bhi elh
      rw [← hll] at blo elh
      have b1 : 0 ≤ h ∧ h ≤ 18446744073709551614 := ⟨bhi.1, bhi.2.1⟩
      have e2 := lo_hi (l + cy)
      have bs := lo_bd (l + cy)
      have br : 0 ≤ hi (l + cy) ∧ hi (l + cy) ≤ 1 := by unfold hi; omega
      obtain ⟨s1, hs1⟩ : ∃ s1, s1 = lo (l + cy) := ⟨_, rfl⟩
      obtain ⟨r, hr⟩ : ∃ r, r = hi (l + cy) := ⟨_, rfl⟩
      have A1 : ∀ wx, (callFunc 101 #[.int .u64 l, .int .u64 cy, .int .u64 0]).run Try.prog wx = .ok (.value (.tuple #[.int .u64 s1, .int .u64 r])) wx := fun wx => by rw [hs1, hr]; exact add64o l cy blo.1 hcy.1 wx
      rw [← hs1] at e2 bs
      rw [← hr] at e2 br
      have e3 := lo_bor bx bs (b := 0) (by omega)
      have bz := lo_bd (x - s1)
      have bb := bor_bd x s1 0
      rw [Int.sub_zero] at e3
      obtain ⟨z, hz⟩ : ∃ z, z = lo (x - s1) := ⟨_, rfl⟩
      obtain ⟨t, ht⟩ : ∃ t, t = bor x s1 0 := ⟨_, rfl⟩
      have A2 : ∀ wx, (callFunc 99 #[.int .u64 x, .int .u64 s1, .int .u64 0]).run Try.prog wx = .ok (.value (.tuple #[.int .u64 z, .int .u64 t])) wx := fun wx => by rw [hz, ht]; exact sub64o x s1 bx.1 bs.1 bs.2 wx
      rw [← hz] at e3 bz
      rw [← ht] at e3 bb
      have R := tt_step hlt (by omega) hml hmd hyd hm hsame hcy hv hx hy' elh e2 e3 bs bz b1.1 br.1 bb
      have HR := (show Hid _ from R)
      have bt : h + r + t < 18446744073709551616 ∧ h + r < 18446744073709551616 := ⟨R.2.2.2.1.2, by have := R.2.2.2.1.2; omega⟩
      have HB := (show Hid _ from hbM.set (o + k) z)
      have HG := (show Hid _ from grown_trans hgr (grown_set wr g (o + k) (.int .u64 z)))
      clear hx hy' hml hmd hsame hv R hbM hL hon hyd hblk hgr hc hh hll hs1 hr ht hz elh e2 e3 bhi hyn
      go_wp2_with fail
      refine (HMul.out _).mono ?_
      rintro e w' ⟨rfl, rfl⟩
      go_wp2
      go_roundw
      case rel => exact ⟨k + 1, by omega, by go_num, _, _, rfl, HB.out, HR.out.1, HR.out.2.1, HR.out.2.2.1, HR.out.2.2.2.1, HR.out.2.2.2.2, HG.out⟩
      case measure => simp [intOf]; omega
    · obtain rfl : k = n := by omega
      obtain ⟨x, hx⟩ : ∃ x, x = M.getD (o + k) 0 := ⟨_, rfl⟩
      have hc1 : wr.cell? ⟨g, o + k, none⟩ = some (.int .u64 x) := by rw [hx]; exact hbM.cell (by omega)
      have hf1 : wr.frozen? ⟨g, o + k, none⟩ = false := hbM.frozen _
      have bx : 0 ≤ x ∧ x < 18446744073709551616 := by rw [hx]; exact hmd.getD (by decide) _
      have e3 := lo_bor bx hcy (b := 0) (by omega)
      have bz := lo_bd (x - cy)
      have bb := bor_bd x cy 0
      rw [Int.sub_zero] at e3
      obtain ⟨z, hz⟩ : ∃ z, z = lo (x - cy) := ⟨_, rfl⟩
      obtain ⟨t, ht⟩ : ∃ t, t = bor x cy 0 := ⟨_, rfl⟩
      have A2 : ∀ wx, (callFunc 99 #[.int .u64 x, .int .u64 cy, .int .u64 0]).run Try.prog wx = .ok (.value (.tuple #[.int .u64 z, .int .u64 t])) wx := fun wx => by rw [hz, ht]; exact sub64o x cy bx.1 hcy.1 hcy.2 wx
      rw [← hz] at e3 bz
      rw [← ht] at e3 bb
      have hfin : vs 18446744073709551616 (fun i => (M.set (o + k) z).getD (o + i) 0) (k + 1) - 18446744073709551616 ^ (k + 1) * t = vs 18446744073709551616 (fun i => L.getD (o + i) 0) (k + 1) - m * vs 18446744073709551616 (fun i => ys.getD i 0) k := by
        have f1 : vs 18446744073709551616 (fun i => (M.set (o + k) z).getD (o + i) 0) k = vs 18446744073709551616 (fun i => M.getD (o + i) 0) k := vs_congr (fun i hi => getD_set_ne (by omega))
        have f2 : (M.set (o + k) z).getD (o + k) 0 = z := getD_set_self (by omega)
        have f3 := hsame (o + k) (by omega)
        simp only [vs]
        rw [f1, f2, ← f3, ← hx, Int.pow_succ, Int.mul_assoc]
        generalize (18446744073709551616 : Int) ^ k = P at hv ⊢
        have e6 : P * z - P * (18446744073709551616 * t) = P * x - P * cy := by rw [← Int.mul_sub, e3, Int.mul_sub]
        omega
      have HF := (show Hid _ from hfin)
      have HP : Hid (Digs 18446744073709551616 (M.set (o + k) z) ∧ (M.set (o + k) z).length = L.length ∧ (∀ j, j < o ∨ o + (k + 1) ≤ j → (M.set (o + k) z).getD j 0 = L.getD j 0)) := ⟨hmd.set _ bz, by simpa using hml, fun j hj => by rw [getD_set_ne (by omega)]; exact hsame j (by omega)⟩
      have HB := (show Hid _ from hbM.set (o + k) z)
      have HG := (show Hid _ from grown_trans hgr (grown_set wr g (o + k) (.int .u64 z)))
      clear hx hml hmd hsame hv hfin hbM hL hon hyd hblk hgr hz ht e3
      go_wp2
      go_ret
      exact ⟨_, t, rfl, HB.out, HP.out.1, HP.out.2.1, HP.out.2.2, bb, HF.out, HG.out⟩

/-- The guess of a digit is not below it. -/
theorem guess_ge {W D : Int} {n : Nat} {wn w1 d1 q : Int} (hD : d1 * 18446744073709551616 ^ n ≤ D) (hW : W < (wn * 18446744073709551616 + w1 + 1) * 18446744073709551616 ^ n) (hq : q * D ≤ W) (hq0 : 0 ≤ q) : q * d1 ≤ wn * 18446744073709551616 + w1 := by
  have hp := pow_pos' (B := 18446744073709551616) (by decide) n
  by_cases hc : q * d1 ≤ wn * 18446744073709551616 + w1
  · exact hc
  · have f1 : q * (d1 * 18446744073709551616 ^ n) ≤ q * D := Int.mul_le_mul_of_nonneg_left hD hq0
    have f2 : (wn * 18446744073709551616 + w1 + 1) * 18446744073709551616 ^ n ≤ q * d1 * 18446744073709551616 ^ n := Int.mul_le_mul_of_nonneg_right (by omega) (by omega)
    rw [Int.mul_assoc] at f2
    omega

theorem guess_le {q d r x g : Int} (e : x = g * d + r) (hr : r < d) (hd : 0 < d) (h : q * d ≤ x) : q ≤ g := by
  by_cases hc : q ≤ g
  · exact hc
  · have : (g + 1) * d ≤ q * d := Int.mul_le_mul_of_nonneg_right (by omega) (by omega)
    rw [Int.add_mul] at this
    omega

theorem div64_bd {h lw y : Int} (hh : 0 ≤ h) (hl : 0 ≤ lw ∧ lw < 18446744073709551616) (hhy : h < y) : (h * 18446744073709551616 + lw) / y < 18446744073709551616 := by
  refine Int.ediv_lt_of_lt_mul (by omega) ?_
  have : (h + 1) * 18446744073709551616 ≤ y * 18446744073709551616 := Int.mul_le_mul_of_nonneg_right (by omega) (by omega)
  omega

/-- Where the loop of takeOut stands: the true digit is not above the guess. -/
structure Owed (W D P q X debt gs : Int) : Prop where
  eq : X - P * debt = W - gs * D
  x : 0 ≤ X ∧ X < P
  d : 0 ≤ debt ∧ debt ≤ 1
  g : q ≤ gs ∧ gs < 18446744073709551616

theorem Owed.pos {W D P q X debt gs : Int} (h : Owed W D P q X debt gs) (hd : 0 < debt) (hq : q * D ≤ W) (hq0 : 0 ≤ q) : debt = 1 ∧ q + 1 ≤ gs ∧ 1 ≤ gs := by
  have h1 := h.d
  have e : debt = 1 := by omega
  subst e
  have h2 := h.eq
  have h3 := h.x
  have : q + 1 ≤ gs := by
    by_cases hc : q + 1 ≤ gs
    · exact hc
    · have hg := h.g
      have : gs = q := by omega
      subst this; omega
  exact ⟨rfl, this, by omega⟩

theorem Owed.zero {W D P q X gs : Int} (h : Owed W D P q X 0 gs) (hD : 0 < D) (hup : W < (q + 1) * D) : gs = q ∧ X = W - q * D := by
  have h2 := h.eq
  have h3 := h.x
  have hg := h.g
  have : gs ≤ q := by
    by_cases hc : gs ≤ q
    · exact hc
    · have : (q + 1) * D ≤ gs * D := Int.mul_le_mul_of_nonneg_right (by omega) (by omega)
      omega
  have e : gs = q := by omega
  subst e
  exact ⟨rfl, by omega⟩

set_option maxHeartbeats 1600000 in
theorem takeOut_any (g o n c : Nat) (L : List Int) (b : Option Addr) (cb : Nat) (ys : List Int) (w : World)
    (hblk : Blk w g L) (hL : Digs 18446744073709551616 L) (hon : o + (n + 2) ≤ L.length) (hn : n ≤ 1000) (hy : Nums w b (n + 1) cb ys) (hap : Apart b g) (hpos : 0 < val 18446744073709551616 ys)
    (hlt : vs 18446744073709551616 (fun i => L.getD (o + i) 0) (n + 2) < 18446744073709551616 * val 18446744073709551616 ys) :
    Calls Try.prog 96 #[.slice (some ⟨g, o, none⟩) (n + 2) c, .slice b (n + 1) cb] w fun e w' => ∃ M q, e = .returned (.int .u64 q) ∧ Blk w' g M ∧ Digs 18446744073709551616 M ∧ M.length = L.length ∧
      (∀ j, j < o ∨ o + (n + 2) ≤ j → M.getD j 0 = L.getD j 0) ∧ (0 ≤ q ∧ q < 18446744073709551616) ∧
      vs 18446744073709551616 (fun i => L.getD (o + i) 0) (n + 2) = q * val 18446744073709551616 ys + vs 18446744073709551616 (fun i => M.getD (o + i) 0) (n + 2) ∧ vs 18446744073709551616 (fun i => M.getD (o + i) 0) (n + 2) < val 18446744073709551616 ys ∧
      w.grownBy w' (some g) := by
  have hyd := hy.digs
  have hyl := hy.hlen
  obtain ⟨W, hWd⟩ : ∃ W, W = vs 18446744073709551616 (fun i => L.getD (o + i) 0) (n + 2) := ⟨_, rfl⟩
  obtain ⟨D, hDd⟩ : ∃ D, D = val 18446744073709551616 ys := ⟨_, rfl⟩
  rw [← hWd, ← hDd] at hlt
  rw [← hDd] at hpos
  have hW0 : 0 ≤ W := by rw [hWd]; exact vs_nonneg (by decide) (fun i _ => (hL.getD (by decide) _).1)
  obtain ⟨q, hqd⟩ : ∃ q, q = W / D := ⟨_, rfl⟩
  have hq0 : 0 ≤ q := by rw [hqd]; exact Int.ediv_nonneg hW0 (by omega)
  have hqm := Int.emod_add_mul_ediv W D
  have hqr0 := Int.emod_nonneg W (show D ≠ 0 by omega)
  have hqr1 := Int.emod_lt_of_pos W hpos
  rw [← hqd, Int.mul_comm] at hqm
  have hql : q * D ≤ W := by omega
  have hqu : W < (q + 1) * D := by rw [Int.add_mul]; omega
  have hqB : q < 18446744073709551616 := by
    by_cases hc : q < 18446744073709551616
    · exact hc
    · have : 18446744073709551616 * D ≤ q * D := Int.mul_le_mul_of_nonneg_right (by omega) (by omega)
      omega
  obtain ⟨wn, hwn⟩ : ∃ x, x = L.getD (o + (n + 1)) 0 := ⟨_, rfl⟩
  obtain ⟨w1, hw1⟩ : ∃ x, x = L.getD (o + n) 0 := ⟨_, rfl⟩
  obtain ⟨d1, hd1⟩ : ∃ x, x = ys.getD n 0 := ⟨_, rfl⟩
  have bwn : 0 ≤ wn ∧ wn < 18446744073709551616 := by rw [hwn]; exact hL.getD (by decide) _
  have bw1 : 0 ≤ w1 ∧ w1 < 18446744073709551616 := by rw [hw1]; exact hL.getD (by decide) _
  have bd1 : 0 ≤ d1 ∧ d1 < 18446744073709551616 := by rw [hd1]; exact hyd.getD (by decide) _
  have hDge : d1 * 18446744073709551616 ^ n ≤ D := by
    rw [hDd, hd1, ← vs_all 18446744073709551616 ys (n := n + 1) (by omega), Int.mul_comm]
    have := vs_nonneg (B := 18446744073709551616) (f := fun i => ys.getD i 0) (n := n) (by decide) (fun i _ => (hyd.getD (by decide) _).1)
    simp only [vs]; omega
  have hWlt : W < (wn * 18446744073709551616 + w1 + 1) * 18446744073709551616 ^ n := by
    have f1 := vs_lt (B := 18446744073709551616) (f := fun i => L.getD (o + i) 0) (n := n) (by decide) (fun i _ => hL.getD (by decide) _)
    rw [hWd]
    simp only [vs]
    rw [← hwn, ← hw1, Int.pow_succ, Int.add_mul, Int.add_mul, Int.mul_assoc (18446744073709551616 ^ n), Int.mul_comm (18446744073709551616 ^ n) (18446744073709551616 * wn), Int.mul_comm 18446744073709551616 wn, Int.mul_comm (18446744073709551616 ^ n) w1]
    omega
  have HDat : Hid (W = vs 18446744073709551616 (fun i => L.getD (o + i) 0) (n + 2) ∧ D = val 18446744073709551616 ys ∧ q * D ≤ W ∧ W < (q + 1) * D ∧ W - q * D < D) := ⟨hWd, hDd, hql, hqu, by rw [Int.add_mul] at hqu; omega⟩
  have HGe : Hid (q * d1 ≤ wn * 18446744073709551616 + w1) := guess_ge hDge hWlt hql hq0
  obtain ⟨b2, o2, rfl, hc⟩ := hy.cells (by omega)
  have hcn : w.cell? ⟨g, o + (n + 1), none⟩ = some (.int .u64 wn) := by rw [hwn]; exact hblk.cell (by omega)
  have hc1 : w.cell? ⟨g, o + n, none⟩ = some (.int .u64 w1) := by rw [hw1]; exact hblk.cell (by omega)
  have hcd : w.cell? ⟨b2, o2 + n, none⟩ = some (.int .u64 d1) := by rw [hd1]; exact hc n (by omega)
  have HC : Hid (w.cell? ⟨g, o + (n + 1), none⟩ = some (.int .u64 wn) ∧ w.cell? ⟨g, o + n, none⟩ = some (.int .u64 w1) ∧ w.cell? ⟨b2, o2 + n, none⟩ = some (.int .u64 d1)) := ⟨hcn, hc1, hcd⟩
  clear hWd hDd hqd hqm hqr0 hqr1 hql hqu hwn hw1 hd1 hDge hWlt hlt hW0 hc
  have hi1 : (n : Int) + 1 < (n : Int) + 2 := by omega
  have hi2 : (n : Int) < (n : Int) + 2 := by omega
  have hi3 : (n : Int) < (n : Int) + 1 := by omega
  have hnn : 0 ≤ (n : Int) := by omega
  go_enter Try.func96, Try.ntmps96
  go_upto_region 3 with fail
  go_quiet (fail)
  have hbel0 := below_drewN (Below.refl w.heap.size w) nq
  have f1 : (w.drewN nq).cell? ⟨g, o + (n + 1), none⟩ = some (.int .u64 wn) := HC.out.1
  have f2 : (w.drewN nq).cell? ⟨g, o + n, none⟩ = some (.int .u64 w1) := HC.out.2.1
  have f3 : (w.drewN nq).cell? ⟨b2, o2 + n, none⟩ = some (.int .u64 d1) := HC.out.2.2
  have hblk0 : Blk (w.drewN nq) g L := hblk
  have hgr0 := grown_drewN w nq (some g)
  generalize w.drewN nq = w0 at hbel0 f1 f2 f3 hblk0 hgr0 ⊢
  clear hcn hc1 hcd
  go_upto_if 19 with fail
  go_cut [6] (fun gv wx => ∃ gs, gv = .int .u64 gs ∧ (q ≤ gs ∧ gs < 18446744073709551616) ∧ ∃ k, wx = w0.drewN k)
  case first =>
    by_cases hwd : wn < d1
    · have HDv := (show Hid _ from div64_eq wn w1 d1 bwn.1 bw1 hwd bd1.2)
      have hdd := div64_bd bwn.1 bw1 hwd
      have HQ : Hid (q ≤ (wn * 18446744073709551616 + w1) / d1 ∧ (wn * 18446744073709551616 + w1) / d1 < 18446744073709551616) := ⟨(Int.le_ediv_iff_mul_le (by omega)).2 HGe.out, hdd⟩
      clear hdd
      go_wp2
      go_quiet ((go_at_call 93; exact Calls.quiet_of (HDv.out _)))
      go_wp2
      go_meet
      case rel => exact ⟨_, rfl, HQ.out, nq, rfl⟩
    · go_wp2
      go_meet
      case rel => exact ⟨_, rfl, ⟨by omega, by omega⟩, 0, rfl⟩
  case rest =>
    obtain ⟨gs, rfl, hgs, k, rfl⟩ := hcut
    have hblk1 : Blk (w0.drewN k) g L := hblk0
    have hgr1 := grown_trans hgr0 (grown_drewN w0 k (some g))
    generalize w0.drewN k = w1' at hblk1 hgr1 ⊢
    have hy1 := hy.grown hgr1 (fun _ => hap)
    clear hblk0 hgr0 f1 f2 f3 hbel0 HC HGe
    obtain ⟨P, hPd⟩ : ∃ P, P = (18446744073709551616 : Int) ^ (n + 2) := ⟨_, rfl⟩
    have HTT : Hid (Calls Try.prog 104 #[.slice (some ⟨g, o, none⟩) (n + 2) c, .slice (some ⟨b2, o2, none⟩) (n + 1) cb, .int .u64 gs] w1' fun e w' => ∃ M bw, e = .returned (.int .u64 bw) ∧ Blk w' g M ∧ Digs 18446744073709551616 M ∧ M.length = L.length ∧
        (∀ j, j < o ∨ o + (n + 2) ≤ j → M.getD j 0 = L.getD j 0) ∧ Owed W D P q (vs 18446744073709551616 (fun i => M.getD (o + i) 0) (n + 2)) bw gs ∧ w1'.grownBy w' (some g)) := by
      refine (takeTimes_any g o (n + 1) c L (some ⟨b2, o2, none⟩) cb ys gs w1' ⟨by omega, hgs.2⟩ hblk1 hL (by omega) (by omega) hy1 (fun _ => hap)).mono ?_
      rintro e w' ⟨M, bw, rfl, h1, h2, h3, h4, h5, h6, h7⟩
      refine ⟨M, bw, rfl, h1, h2, h3, h4, ⟨?_, ⟨vs_nonneg (by decide) (fun i _ => (h2.getD (by decide) _).1), ?_⟩, h5, hgs⟩, h7⟩
      · rw [vs_all _ ys (by omega)] at h6
        rw [HDat.out.1, hPd, HDat.out.2.1]; exact h6
      · rw [hPd]; exact vs_lt (by decide) (fun i _ => h2.getD (by decide) _)
    have hDv : Hid (vs 18446744073709551616 (fun i => ys.getD i 0) (n + 2) = D) := by rw [HDat.out.2.1]; exact vs_all _ ys (by omega)
    have hP0 : 0 < P := by rw [hPd]; exact pow_pos' (by decide) _
    have HPd : Hid (P = (18446744073709551616 : Int) ^ (n + 2)) := hPd
    clear hPd hblk1
    go_wp2_with fail
    refine HTT.out.mono ?_
    rintro e w2 ⟨M0, bw, rfl, hb2, hM0d, hM0l, hM0s, how, hg2⟩
    have HO : Hid (Owed W D P q (vs 18446744073709551616 (fun i => M0.getD (o + i) 0) (n + 2)) bw gs) := how
    have hgr2 := grown_trans hgr1 hg2
    clear how hg2 HTT hy1 hgr1
    go_wp2
    go_loopw [6, 7] (fun gv dv wr => ∃ gs debt M, gv = .int .u64 gs ∧ dv = .int .u64 debt ∧ Blk wr g M ∧ Digs 18446744073709551616 M ∧ M.length = L.length ∧ (∀ j, j < o ∨ o + (n + 2) ≤ j → M.getD j 0 = L.getD j 0) ∧
        Owed W D P q (vs 18446744073709551616 (fun i => M.getD (o + i) 0) (n + 2)) debt gs ∧ w.grownBy wr (some g)) (fun gv _ _ => (intOf gv).toNat)
    case atStart => exact ⟨_, _, M0, rfl, rfl, hb2, hM0d, hM0l, hM0s, HO.out, hgr2⟩
    case round =>
      obtain ⟨gs, debt, M, rfl, rfl, hbM, hMd, hMl, hMs, how, hgr⟩ := hrel
      have hd01 := how.d
      have hg01 := how.g
      have HOw : Hid (Owed W D P q (vs 18446744073709551616 (fun i => M.getD (o + i) 0) (n + 2)) debt gs) := how
      clear how
      by_cases hd : 0 < debt
      · obtain ⟨rfl, hq1, hg1⟩ := HOw.out.pos hd HDat.out.2.2.1 hq0
        have hyr := hy.grown hgr (fun _ => hap)
        have HAd : Hid (Calls Try.prog 87 #[.slice (some ⟨g, o, none⟩) (n + 2) c, .slice (some ⟨b2, o2, none⟩) (n + 1) cb] wr fun e w' => ∃ N cy, e = .returned (.int .u64 cy) ∧ (0 ≤ cy ∧ cy ≤ 1) ∧ Blk w' g N ∧ Digs 18446744073709551616 N ∧ N.length = L.length ∧
            (∀ j, j < o ∨ o + (n + 2) ≤ j → N.getD j 0 = L.getD j 0) ∧ Owed W D P q (vs 18446744073709551616 (fun i => N.getD (o + i) 0) (n + 2)) (1 - cy) (gs - 1) ∧ wr.grownBy w' (some g)) := by
          refine (addTo_any (some ⟨g, o, none⟩) g o (n + 2) c M (some ⟨b2, o2, none⟩) (n + 1) cb ys wr (fun _ => rfl) hbM hMd (by omega) (by omega) hyr (fun _ => hap)).mono ?_
          rintro e w' ⟨N, cy, rfl, h1, h2, h3, h4, h5, h6, h7⟩
          rw [hDv.out, ← HPd.out] at h6
          refine ⟨N, cy, rfl, h5, h1, h2, h3.trans hMl, fun j hj => (h4 j hj).trans (hMs j hj), ⟨?_, ⟨vs_nonneg (by decide) (fun i _ => (h2.getD (by decide) _).1), ?_⟩, by omega, by omega⟩, h7⟩
          · have e1 := HOw.out.eq
            rw [Int.mul_sub, Int.sub_mul]
            omega
          · rw [HPd.out]; exact vs_lt (by decide) (fun i _ => h2.getD (by decide) _)
        clear hbM hMd hMl hMs hyr
        go_wp2_with fail
        refine HAd.out.mono ?_
        rintro e w3 ⟨N, cy, rfl, hcy, h1, h2, h3, h4, h5, h7⟩
        have HN : Hid (Owed W D P q (vs 18446744073709551616 (fun i => N.getD (o + i) 0) (n + 2)) (1 - cy) (gs - 1)) := h5
        have hgr3 := grown_trans hgr h7
        clear h5 h7 HAd hgr
        go_wp2
        go_roundw
        case rel => exact ⟨_, _, N, rfl, rfl, h1, h2, h3, h4, HN.out, hgr3⟩
        case measure => simp [intOf]; omega
      · obtain rfl : debt = 0 := by omega
        obtain ⟨e1, e2⟩ := HOw.out.zero hpos HDat.out.2.2.2.1
        have HE : Hid (gs = q ∧ vs 18446744073709551616 (fun i => M.getD (o + i) 0) (n + 2) = W - q * D) := ⟨e1, e2⟩
        clear e1 e2
        go_wp2
        go_ret
        have hA : vs 18446744073709551616 (fun i => L.getD (o + i) 0) (n + 2) = gs * val 18446744073709551616 ys + vs 18446744073709551616 (fun i => M.getD (o + i) 0) (n + 2) := by
          rw [← HDat.out.1, HE.out.2, HE.out.1, ← HDat.out.2.1]; omega
        have hB : vs 18446744073709551616 (fun i => M.getD (o + i) 0) (n + 2) < val 18446744073709551616 ys := by
          rw [HE.out.2, ← HDat.out.2.1]; exact HDat.out.2.2.2.2
        exact ⟨M, gs, rfl, hbM, hMd, hMl, hMs, ⟨by omega, hg01.2⟩, hA, hB, hgr⟩
end Go.Proofs.Ytchmlfjjgehbkaa

namespace Go.Proofs.Ytchmlfjjgehbkaa
open Go.RowKit

theorem top_room {ys : List Int} {n s : Nat} (hy : Digs 18446744073709551616 ys) (hl : ys.length = n + 1) (hs : s ≤ 64) (h : ys.getD n 0 * 2 ^ s < 18446744073709551616) : val 18446744073709551616 ys * 2 ^ s < 18446744073709551616 ^ (n + 1) := by
  have hpr := pr_eq hs
  have p1 := pow_pos' (B := 2) (by decide) s
  have p2 := pow_pos' (B := 2) (by decide) (64 - s)
  have pn := pow_pos' (B := 18446744073709551616) (by decide) n
  have e := val_take_succ 18446744073709551616 ys n (by omega)
  rw [List.take_of_length_le (by omega)] at e
  have t := val_lt (B := 18446744073709551616) (by decide) (hy.take n)
  rw [List.length_take, Nat.min_eq_left (by omega)] at t
  have hd : ys.getD n 0 < 2 ^ (64 - s) := by
    by_cases hc : ys.getD n 0 < 2 ^ (64 - s)
    · exact hc
    · have : 2 ^ (64 - s) * 2 ^ s ≤ ys.getD n 0 * 2 ^ s := Int.mul_le_mul_of_nonneg_right (by omega) (by omega)
      rw [Int.mul_comm (2 ^ (64 - s)), hpr] at this
      omega
  have f1 : 18446744073709551616 ^ n * (ys.getD n 0 + 1) ≤ 18446744073709551616 ^ n * 2 ^ (64 - s) := Int.mul_le_mul_of_nonneg_left (by omega) (by omega)
  rw [Int.mul_add] at f1
  have f2 : val 18446744073709551616 ys * 2 ^ s < 18446744073709551616 ^ n * 2 ^ (64 - s) * 2 ^ s := Int.mul_lt_mul_of_pos_right (by omega) p1
  rw [Int.mul_assoc, Int.mul_comm (2 ^ (64 - s)), hpr] at f2
  rw [Int.pow_succ]; exact f2

/-- Where the division stands: k limbs of the quotient are still to come. -/
structure Stands (A D : Int) (nq m k : Nat) (Q R : List Int) : Prop where
  eq : A = vs 18446744073709551616 (fun j => Q.getD j 0) nq * D + vs 18446744073709551616 (fun j => R.getD j 0) m
  up : vs 18446744073709551616 (fun j => R.getD j 0) m < 18446744073709551616 ^ k * D
  zero : ∀ j, j < k → Q.getD j 0 = 0

theorem stands_win {A D : Int} {nq m k n : Nat} {Q R : List Int} (h : Stands A D nq m (k + 1) Q R) (hR : Digs 18446744073709551616 R) (hm : k + (n + 2) ≤ m) : vs 18446744073709551616 (fun i => R.getD (k + i) 0) (n + 2) < 18446744073709551616 * D := by
  obtain ⟨r, rfl⟩ : ∃ r, m = k + ((n + 2) + r) := ⟨m - k - (n + 2), by omega⟩
  have h1 := h.up
  rw [vs_add, vs_add 18446744073709551616 (fun i => R.getD (k + i) 0)] at h1
  have p1 := pow_pos' (B := 18446744073709551616) (by decide) k
  have n1 := vs_nonneg (B := 18446744073709551616) (f := fun j => R.getD j 0) (n := k) (by decide) (fun i _ => (hR.getD (by decide) _).1)
  have n2 := vs_nonneg (B := 18446744073709551616) (f := fun i => R.getD (k + (n + 2 + i)) 0) (n := r) (by decide) (fun i _ => (hR.getD (by decide) _).1)
  have n3 : 0 ≤ 18446744073709551616 ^ k * (18446744073709551616 ^ (n + 2) * vs 18446744073709551616 (fun i => R.getD (k + (n + 2 + i)) 0) r) := mul_nonneg' (by omega) (mul_nonneg' (Int.le_of_lt (pow_pos' (by decide) _)) n2)
  have e5 : (18446744073709551616 : Int) ^ (k + 1) * D = 18446744073709551616 ^ k * (18446744073709551616 * D) := by rw [Int.pow_succ, Int.mul_assoc]
  rw [Int.mul_add, e5] at h1
  by_cases hc : vs 18446744073709551616 (fun i => R.getD (k + i) 0) (n + 2) < 18446744073709551616 * D
  · exact hc
  · have : 18446744073709551616 ^ k * (18446744073709551616 * D) ≤ 18446744073709551616 ^ k * vs 18446744073709551616 (fun i => R.getD (k + i) 0) (n + 2) := Int.mul_le_mul_of_nonneg_left (by omega) (by omega)
    omega

theorem stands_next {A D : Int} {nq m k n : Nat} {Q R M : List Int} {q : Int} (h : Stands A D nq m (k + 1) Q R) (hR : Digs 18446744073709551616 R) (hM : Digs 18446744073709551616 M) (hm : k + (n + 2) ≤ m) (hk : k < nq) (hQ : Q.length = nq) (hD : D ≤ 18446744073709551616 ^ (n + 1))
    (hs : ∀ j, j < k ∨ k + (n + 2) ≤ j → M.getD j 0 = R.getD j 0) (e : vs 18446744073709551616 (fun i => R.getD (k + i) 0) (n + 2) = q * D + vs 18446744073709551616 (fun i => M.getD (k + i) 0) (n + 2)) (hlt : vs 18446744073709551616 (fun i => M.getD (k + i) 0) (n + 2) < D) :
    Stands A D nq m k (Q.set k q) M := by
  have p1 := pow_pos' (B := 18446744073709551616) (by decide) k
  have e1 := vs_seg (B := 18446744073709551616) (N := M) (M := R) hm hs
  have e2 : vs 18446744073709551616 (fun i => M.getD (k + i) 0) (n + 2) - vs 18446744073709551616 (fun i => R.getD (k + i) 0) (n + 2) = - (q * D) := by omega
  rw [e2, Int.mul_neg] at e1
  refine ⟨?_, ?_, fun j hj => by rw [getD_set_ne (by omega)]; exact h.zero j (by omega)⟩
  · rw [vs_set hk (by omega), h.zero k (by omega), Int.sub_zero, Int.add_mul, Int.mul_assoc, h.eq]
    omega
  · obtain ⟨r, rfl⟩ : ∃ r, m = k + ((n + 2) + r) := ⟨m - k - (n + 2), by omega⟩
    have h1 := h.up
    rw [vs_add, vs_add 18446744073709551616 (fun i => R.getD (k + i) 0)] at h1
    have e3 : vs 18446744073709551616 (fun i => M.getD (k + (n + 2 + i)) 0) r = vs 18446744073709551616 (fun i => R.getD (k + (n + 2 + i)) 0) r := vs_congr (fun i _ => hs _ (by omega))
    have n1 := vs_nonneg (B := 18446744073709551616) (f := fun j => R.getD j 0) (n := k) (by decide) (fun i _ => (hR.getD (by decide) _).1)
    have n2 := vs_nonneg (B := 18446744073709551616) (f := fun i => R.getD (k + (n + 2 + i)) 0) (n := r) (by decide) (fun i _ => (hR.getD (by decide) _).1)
    have n4 := vs_nonneg (B := 18446744073709551616) (f := fun i => R.getD (k + i) 0) (n := n + 2) (by decide) (fun i _ => (hR.getD (by decide) _).1)
    have l1 := vs_lt (B := 18446744073709551616) (f := fun j => M.getD j 0) (n := k) (by decide) (fun i _ => hM.getD (by decide) _)
    have z : vs 18446744073709551616 (fun i => R.getD (k + (n + 2 + i)) 0) r = 0 := by
      by_cases hc : vs 18446744073709551616 (fun i => R.getD (k + (n + 2 + i)) 0) r = 0
      · exact hc
      · have f1 : 18446744073709551616 ^ (n + 2) * 1 ≤ 18446744073709551616 ^ (n + 2) * vs 18446744073709551616 (fun i => R.getD (k + (n + 2 + i)) 0) r := Int.mul_le_mul_of_nonneg_left (by omega) (Int.le_of_lt (pow_pos' (by decide) _))
        have f2 : 18446744073709551616 ^ k * (18446744073709551616 ^ (n + 2) * 1) ≤ 18446744073709551616 ^ k * (vs 18446744073709551616 (fun i => R.getD (k + i) 0) (n + 2) + 18446744073709551616 ^ (n + 2) * vs 18446744073709551616 (fun i => R.getD (k + (n + 2 + i)) 0) r) := Int.mul_le_mul_of_nonneg_left (by omega) (by omega)
        have f3 : 18446744073709551616 ^ (k + 1) * D ≤ 18446744073709551616 ^ (k + 1) * 18446744073709551616 ^ (n + 1) := Int.mul_le_mul_of_nonneg_left hD (Int.le_of_lt (pow_pos' (by decide) _))
        have e5 : (18446744073709551616 : Int) ^ (k + 1) * 18446744073709551616 ^ (n + 1) = 18446744073709551616 ^ k * 18446744073709551616 ^ (n + 2) := by rw [← Int.pow_add, ← Int.pow_add, show k + 1 + (n + 1) = k + (n + 2) by omega]
        rw [e5] at f3
        rw [Int.mul_one] at f2
        omega
    rw [vs_add, vs_add 18446744073709551616 (fun i => M.getD (k + i) 0), e3, z]
    have f4 : 18446744073709551616 ^ k * (vs 18446744073709551616 (fun i => M.getD (k + i) 0) (n + 2) + 1) ≤ 18446744073709551616 ^ k * D := Int.mul_le_mul_of_nonneg_left (by omega) (by omega)
    rw [Int.mul_add] at f4
    simp only [Int.mul_zero, Int.add_zero]
    omega

theorem ld_end {va vb Q R D A ls rem : Int} {s : Nat} (hA : A = va * 2 ^ s) (hD : D = vb * 2 ^ s) (e : A = Q * D + R) (hR : R < D) (hl : R = ls * 2 ^ s + rem) (h0 : 0 ≤ rem) (h1 : rem < 2 ^ s) : va = Q * vb + ls ∧ ls < vb := by
  have hpp := pow_pos' (B := 2) (by decide) s
  generalize (2 : Int) ^ s = p at *
  have e1 : (va - Q * vb - ls) * p = rem := by
    rw [Int.sub_mul, Int.sub_mul, ← hA, Int.mul_assoc, ← hD]; omega
  have hz : va - Q * vb - ls = 0 := by
    by_cases hc : va - Q * vb - ls = 0
    · exact hc
    · by_cases hp : 0 < va - Q * vb - ls
      · have : 1 * p ≤ (va - Q * vb - ls) * p := Int.mul_le_mul_of_nonneg_right (by omega) (by omega)
        omega
      · have : (va - Q * vb - ls) * p ≤ (-1) * p := Int.mul_le_mul_of_nonneg_right (by omega) (by omega)
        omega
  refine ⟨by omega, ?_⟩
  by_cases hc : ls < vb
  · exact hc
  · have : vb * p ≤ ls * p := Int.mul_le_mul_of_nonneg_right (by omega) (by omega)
    omega

theorem movedUp_z (a : Option Addr) (la ca n m : Nat) (nz mz : Int) (xs : List Int) (w : World) (h : Nums w a la ca xs) (hn : n ≤ 1000000) (hm : m ≤ 100000) (hwm : n / 64 ≤ m) (hlt : val 18446744073709551616 xs * 2 ^ n < 18446744073709551616 ^ m) (e1 : nz = (n : Int)) (e2 : mz = (m : Int)) :
    Calls Try.prog 95 #[.slice a la ca, .int .i64 nz, .int .i64 mz] w fun e w' => ∃ L, e = .returned (.slice (some ⟨w.heap.size, 0, none⟩) m m) ∧ L.length = m ∧
      Blk w' w.heap.size L ∧ Digs 18446744073709551616 L ∧ val 18446744073709551616 L = val 18446744073709551616 xs * 2 ^ n ∧ Below w.heap.size w w' := by
  subst e1; subst e2; exact movedUp_any a la ca n m xs w h hn hm hwm hlt

theorem stands_start {xs ys R : List Int} {la n s nq : Nat} (hx : Digs 18446744073709551616 xs) (hy : Digs 18446744073709551616 ys) (hxl : xs.length = la) (hyl : ys.length = n + 1) (hnq : nq + n = la) (ht : 0 < ys.getD n 0) (hR : R.length = la + 1) (hv : val 18446744073709551616 R = val 18446744073709551616 xs * 2 ^ s) :
    Stands (val 18446744073709551616 xs * 2 ^ s) (val 18446744073709551616 ys * 2 ^ s) nq (la + 1) nq (noughts nq) R := by
  have p1 := pow_pos' (B := 2) (by decide) s
  have pn := pow_pos' (B := 18446744073709551616) (by decide) n
  have e := val_take_succ 18446744073709551616 ys n (by omega)
  rw [List.take_of_length_le (by omega)] at e
  have t := val_nonneg (B := 18446744073709551616) (by decide) (hy.take n)
  have f1 : 18446744073709551616 ^ n * 1 ≤ 18446744073709551616 ^ n * ys.getD n 0 := Int.mul_le_mul_of_nonneg_left (by omega) (by omega)
  have f2 := val_lt (B := 18446744073709551616) (by decide) hx
  have f3 : val 18446744073709551616 xs * 2 ^ s < 18446744073709551616 ^ xs.length * 2 ^ s := Int.mul_lt_mul_of_pos_right f2 p1
  have f4 : 18446744073709551616 ^ n * 2 ^ s ≤ val 18446744073709551616 ys * 2 ^ s := Int.mul_le_mul_of_nonneg_right (by omega) (by omega)
  have f5 : 18446744073709551616 ^ nq * (18446744073709551616 ^ n * 2 ^ s) ≤ 18446744073709551616 ^ nq * (val 18446744073709551616 ys * 2 ^ s) := Int.mul_le_mul_of_nonneg_left f4 (Int.le_of_lt (pow_pos' (by decide) _))
  rw [← Int.mul_assoc, ← Int.pow_add, hnq] at f5
  rw [hxl] at f3
  have hz : ∀ j, (noughts nq).getD j 0 = 0 := fun j => by simp only [noughts, List.getD, List.getElem?_replicate]; split <;> rfl
  refine ⟨?_, ?_, fun j _ => hz j⟩
  · rw [vs_zero _ (fun i _ => hz i), vs_all _ R (by omega), hv]; omega
  · rw [vs_all _ R (by omega), hv]; omega

theorem up_room {xs : List Int} {la s : Nat} (hx : Digs 18446744073709551616 xs) (hxl : xs.length = la) (hs : s ≤ 63) : val 18446744073709551616 xs * 2 ^ s < 18446744073709551616 ^ (la + 1) := by
  have p1 := pow_pos' (B := 2) (by decide) s
  have p2 := pow_pos' (B := 2) (by decide) (64 - s)
  have f2 := val_lt (B := 18446744073709551616) (by decide) hx
  have f3 : val 18446744073709551616 xs * 2 ^ s < 18446744073709551616 ^ xs.length * 2 ^ s := Int.mul_lt_mul_of_pos_right f2 p1
  have hpr := pr_eq (p := s) (by omega)
  have f4 : (2 : Int) ^ s * 1 ≤ 2 ^ s * 2 ^ (64 - s) := Int.mul_le_mul_of_nonneg_left (by omega) (by omega)
  have f5 : (18446744073709551616 : Int) ^ la * 2 ^ s ≤ 18446744073709551616 ^ la * 18446744073709551616 := Int.mul_le_mul_of_nonneg_left (by omega) (Int.le_of_lt (pow_pos' (by decide) _))
  rw [Int.pow_succ]
  rw [hxl] at f3
  omega

set_option maxHeartbeats 1600000 in
theorem longDivision_any (a b : Option Addr) (la ca n cb : Nat) (xs ys : List Int) (w : World) (h : Nums w a la ca xs) (h' : Nums w b (n + 1) cb ys) (hn : n + 1 ≤ la) (hla : la ≤ 64) (ht : 0 < ys.getD n 0) :
    Calls Try.prog 81 #[.slice a la ca, .slice b (n + 1) cb] w fun e w' => ∃ a1 k1 c1 qs a2 k2 c2 rs, e = .returned (.tuple #[.slice a1 k1 c1, .slice a2 k2 c2]) ∧ Nums w' a1 k1 c1 qs ∧ Nums w' a2 k2 c2 rs ∧
      (Top qs ∧ Top rs ∧ val 18446744073709551616 xs = val 18446744073709551616 qs * val 18446744073709551616 ys + val 18446744073709551616 rs ∧ val 18446744073709551616 rs < val 18446744073709551616 ys) ∧
      Fresh w w' a1 k1 ∧ Fresh w w' a2 k2 ∧ (0 < k1 → 0 < k2 → ∀ x y, a1 = some x → a2 = some y → x.block ≠ y.block) ∧ Below w.heap.size w w' := by
  have hd := h.digs
  have hd' := h'.digs
  have hxl := h.hlen
  have hyl := h'.hlen
  obtain ⟨b1, o1, rfl, hc⟩ := h'.cells (by omega)
  obtain ⟨y, hy⟩ : ∃ y, y = ys.getD n 0 := ⟨_, rfl⟩
  have c1 : w.cell? ⟨b1, o1 + n, none⟩ = some (.int .u64 y) := by rw [hy]; exact hc n (by omega)
  have by' : 0 ≤ y ∧ y < 18446744073709551616 := by rw [hy]; exact hd'.getD (by decide) _
  obtain ⟨s, hs, hs63, _, hn2⟩ := norm_of (show 0 < y by omega) by'.2
  have HS : Hid (64 - bl y = (s : Int)) := hs
  have HU : Hid (val 18446744073709551616 ys * 2 ^ s < 18446744073709551616 ^ (n + 1)) := top_room hd' hyl (by omega) (by rw [← hy]; exact hn2)
  have HV : Hid (val 18446744073709551616 xs * 2 ^ s < 18446744073709551616 ^ (la + 1)) := up_room hd hxl hs63
  obtain ⟨nq, hnq⟩ : ∃ nq, nq + n = la := ⟨la - n, by omega⟩
  have HST : Hid (∀ R, R.length = la + 1 → val 18446744073709551616 R = val 18446744073709551616 xs * 2 ^ s → Stands (val 18446744073709551616 xs * 2 ^ s) (val 18446744073709551616 ys * 2 ^ s) nq (la + 1) nq (noughts nq) R) := fun R h1 h2 => stands_start hd hd' hxl hyl hnq ht h1 h2
  have HP : Hid (0 < val 18446744073709551616 ys) := by
    have e := val_take_succ 18446744073709551616 ys n (by omega)
    rw [List.take_of_length_le (by omega)] at e
    have t := val_nonneg (B := 18446744073709551616) (by decide) (hd'.take n)
    have pn := pow_pos' (B := 18446744073709551616) (by decide) n
    have : 0 < 18446744073709551616 ^ n * ys.getD n 0 := Int.mul_pos pn ht
    exact (show 0 < val 18446744073709551616 ys by omega)
  clear hs hn2 hy hc hxl hyl ht
  go_enter Try.func81, Try.ntmps81
  go_wp2_with fail
  refine (lz64_any _ by' _).mono ?_
  rintro e w0 ⟨rfl, hw0⟩
  subst hw0
  rw [HS.out]
  clear c1
  go_wp2_with fail
  refine (movedUp_z _ _ _ s (n + 1) _ _ ys _ h' (by omega) (by omega) (by omega) HU.out rfl (by omega)).mono ?_
  rintro e w1 ⟨D, rfl, hDl, hbD, hDd, hDv, hB1⟩
  have hx1 := h.below hB1
  have HD : Hid (D.length = n + 1 ∧ Digs 18446744073709551616 D ∧ val 18446744073709551616 D = val 18446744073709551616 ys * 2 ^ s) := ⟨hDl, hDd, hDv⟩
  clear hDl hDd hDv
  go_wp2_with fail
  refine (movedUp_z _ _ _ s (la + 1) _ _ xs _ hx1 (by omega) (by omega) (by omega) HV.out rfl (by omega)).mono ?_
  rintro e w2 ⟨R0, rfl, hRl, hbR, hRd, hRv, hB2⟩
  have HR0 : Hid (R0.length = la + 1 ∧ Digs 18446744073709551616 R0 ∧ val 18446744073709551616 R0 = val 18446744073709551616 xs * 2 ^ s) := ⟨hRl, hRd, hRv⟩
  clear hRl hRd hRv
  go_wp2_with (at_make; refine wpList_mk _ rfl _ _ 26 rfl Try.underlying26 .i64 .i64 _ _ nq rfl rfl (by omega) (by omega) (by omega) ?_)
  intro w3 hbQ hB3 hsz
  have g1 : w0.heap.size < w1.heap.size := hbD.lt
  have g2 : w1.heap.size < w2.heap.size := hbR.lt
  have hDn : Nums w1 (some ⟨w0.heap.size, 0, none⟩) (n + 1) (n + 1) D := hbD.nums HD.out.2.1 HD.out.1 (by omega)
  have hbR3 := hbR.below hB3 g2
  have hB13 : Below w1.heap.size w1 w3 := hB2.trans (hB3.mono hB2.size)
  have HN : Hid ((noughts nq).length = nq ∧ Digs 18446744073709551616 (noughts nq)) := ⟨length_noughts _, fun x hx => by rw [(List.mem_replicate.1 hx).2]; omega⟩
  clear hB2 hB3 hbR hx1 hsz
  go_wp2
  go_loopw [39] (fun iv wr => ∃ i : Nat, i ≤ nq ∧ iv = .int .i64 i ∧ ∃ Q R, Blk wr w2.heap.size Q ∧ Blk wr w1.heap.size R ∧ Q.length = nq ∧ R.length = la + 1 ∧ Digs 18446744073709551616 Q ∧ Digs 18446744073709551616 R ∧
      Stands (val 18446744073709551616 xs * 2 ^ s) (val 18446744073709551616 ys * 2 ^ s) nq (la + 1) (nq - i) Q R ∧ Below w1.heap.size w1 wr) (fun iv _ => nq - (intOf iv).toNat)
  case atStart => exact ⟨0, Nat.zero_le _, rfl, _, _, hbQ, hbR3, HN.out.1, HR0.out.1, HN.out.2, HR0.out.2.1, HST.out _ HR0.out.1 HR0.out.2.2, hB13⟩
  case round =>
    obtain ⟨i, hi, rfl, Q, R, hbQ', hbR', hQl, hRl, hQd, hRd, hst, hb⟩ := hrel
    have HM : Hid (Q.length = nq ∧ R.length = la + 1 ∧ Digs 18446744073709551616 Q ∧ Digs 18446744073709551616 R ∧ Stands (val 18446744073709551616 xs * 2 ^ s) (val 18446744073709551616 ys * 2 ^ s) nq (la + 1) (nq - i) Q R) := ⟨hQl, hRl, hQd, hRd, hst⟩
    clear hQl hRl hQd hRd hst hbQ hbR3
    by_cases hlt : i < nq
    · obtain ⟨k, hk⟩ : ∃ k, k + 1 = nq - i := ⟨nq - i - 1, by omega⟩
      have hki : (nq : Int) - 1 - (i : Int) = (k : Int) := by omega
      have hkq : (k : Int) < (nq : Int) := by omega
      have hlti : (i : Int) < (nq : Int) := by omega
      have HA : Hid (∀ wx m c, m = n + 2 → Blk wx w1.heap.size R → Blk wx w2.heap.size Q → Below w1.heap.size w1 wx → Calls Try.prog 96 #[.slice (some ⟨w1.heap.size, k, none⟩) m c, .slice (some ⟨w0.heap.size, 0, none⟩) (n + 1) (n + 1)] wx fun e w' => ∃ M q, e = .returned (.int .u64 q) ∧ (0 ≤ q ∧ q < 18446744073709551616) ∧
          Blk w' w1.heap.size M ∧ Blk w' w2.heap.size Q ∧ M.length = la + 1 ∧ Digs 18446744073709551616 M ∧ Stands (val 18446744073709551616 xs * 2 ^ s) (val 18446744073709551616 ys * 2 ^ s) nq (la + 1) k (Q.set k q) M ∧ Below w1.heap.size w1 w' ∧
          w'.frozen? ⟨w2.heap.size, k, none⟩ = false ∧ ∃ v, w'.cell? ⟨w2.heap.size, k, none⟩ = some v) := by
        intro wx m c hm hbx hqx hbw
        subst hm
        have hst := HM.out.2.2.2.2
        rw [← hk] at hst
        have hRl := HM.out.2.1
        refine (takeOut_any w1.heap.size k n c R (some ⟨w0.heap.size, 0, none⟩) (n + 1) D wx hbx HM.out.2.2.2.1 (by omega) (by omega) (hDn.below hbw) (fun x hx => by cases hx; exact Nat.ne_of_lt g1) ?_ ?_).mono ?_
        · rw [HD.out.2.2]; exact Int.mul_pos HP.out (pow_pos' (by decide) _)
        · rw [HD.out.2.2]; exact stands_win hst HM.out.2.2.2.1 (by omega)
        · rintro e w' ⟨M, q, rfl, hbM, hMd, hMl, hMs, hq, hv, hvl, hg⟩
          have hq4 : Blk w' w2.heap.size Q := hqx.grown hg (by simp; omega)
          rw [HD.out.2.2] at hv hvl
          refine ⟨M, q, rfl, hq, hbM, hq4, hMl.trans hRl, hMd, stands_next hst HM.out.2.2.2.1 hMd (by omega) (by omega) HM.out.1 (Int.le_of_lt HU.out) hMs hv hvl, hbw.trans (below_of_grown hg (Nat.le_refl _) hbw.size), hq4.frozen _, _, hq4.cell (by have := HM.out.1; omega)⟩
      go_wp2_with fail
      refine (HA.out _ _ _ (by omega) hbR' hbQ' hb).mono ?_
      rintro e w5 ⟨M, q, rfl, hq, hbM, hq4, hMl, hMd, hst, hb5, hfz, v0, hcv⟩
      have HB : Hid (Blk (w5.setCell ⟨w2.heap.size, k, none⟩ (.int .u64 q)) w2.heap.size (Q.set k q)) := hq4.set k q
      have HC : Hid (Blk (w5.setCell ⟨w2.heap.size, k, none⟩ (.int .u64 q)) w1.heap.size M) := hbM.grown (grown_set w5 w2.heap.size k (.int .u64 q)) (by simp; omega)
      have HG : Hid (Below w1.heap.size w1 (w5.setCell ⟨w2.heap.size, k, none⟩ (.int .u64 q))) := hb5.setCell (Nat.le_of_lt g2) _
      have HQ : Hid (M.length = la + 1 ∧ Digs 18446744073709551616 M ∧ (Q.set k q).length = nq ∧ Digs 18446744073709551616 (Q.set k q) ∧ Stands (val 18446744073709551616 xs * 2 ^ s) (val 18446744073709551616 ys * 2 ^ s) nq (la + 1) (nq - (i + 1)) (Q.set k q) M) :=
        ⟨hMl, hMd, by simpa using HM.out.1, HM.out.2.2.1.set _ hq, by rw [show nq - (i + 1) = k by omega]; exact hst⟩
      clear hbM hq4 hMl hMd hst hb5 hb hbR' hbQ'
      go_wp2
      go_roundw
      case rel => exact ⟨i + 1, by omega, by go_num, _, M, HB.out, HC.out, HQ.out.2.2.1, HQ.out.1, HQ.out.2.2.2.1, HQ.out.2.1, HQ.out.2.2.2.2, HG.out⟩
      case measure => simp [intOf]; omega
    · obtain rfl : i = nq := by omega
      have hst := HM.out.2.2.2.2
      rw [Nat.sub_self] at hst
      have hup := hst.up
      have heq := hst.eq
      rw [vs_all _ R (by have := HM.out.2.1; omega)] at hup heq
      rw [vs_all _ Q (by have := HM.out.1; omega)] at heq
      rw [Int.pow_zero, Int.one_mul] at hup
      have HE : Hid (∀ ls rem, val 18446744073709551616 R = ls * 2 ^ s + rem → 0 ≤ rem → rem < 2 ^ s → val 18446744073709551616 xs = val 18446744073709551616 Q * val 18446744073709551616 ys + ls ∧ ls < val 18446744073709551616 ys) := fun ls rem e1 e2 e3 => ld_end rfl rfl heq hup e1 e2 e3
      clear hst hup heq
      have hnQ := hbQ'.nums HM.out.2.2.1 HM.out.1 (by omega)
      have hnR := hbR'.nums HM.out.2.2.2.1 HM.out.2.1 (by omega)
      go_wp2_with fail
      refine (trimmed_any _ _ _ _ _ hnQ).mono ?_
      rintro e w4 ⟨a1, k1, c1, rfl, htr, hk, hw4⟩
      subst hw4
      go_wp2_with fail
      refine (movedDown_any _ _ _ s R _ hnR (by omega) (by omega)).mono ?_
      rintro e w5 ⟨a2, k2, c2, rs, rem, rfl, hn2, _, htop, _, hrem, hfr2, hb5⟩
      have hE := HE.out _ _ hrem.1 hrem.2.1 hrem.2.2
      have hkl : k1 ≤ i := by have := htr.le; have := hnQ.hlen; omega
      have hlt4 := hbQ'.lt
      have hbQ5 := hbQ'.below hb5 hlt4
      have hn1 : Nums w5 a1 k1 c1 (Q.take k1) := by
        rcases hk with ⟨rfl, rfl, rfl⟩ | ⟨_, rfl, rfl⟩
        · simpa using Nums.nil w5
        · exact (hnQ.below hb5).take hkl
      have hfr1 : Fresh w0 w5 a1 k1 := fun hp => by
        rcases hk with ⟨rfl, _, _⟩ | ⟨_, rfl, _⟩
        · exact absurd hp (Nat.lt_irrefl _)
        · exact ⟨_, Q, rfl, by omega, hbQ5, by have := HM.out.1; omega⟩
      have hfr2' : Fresh w0 w5 a2 k2 := fun hp => by
        obtain ⟨g, L, e1, e2, e3, e4⟩ := hfr2 hp
        exact ⟨g, L, e1, by have := hb.size; omega, e3, e4⟩
      have hsep : 0 < k1 → 0 < k2 → ∀ x y, a1 = some x → a2 = some y → x.block ≠ y.block := fun p1 p2 x y e1 e2 => by
        obtain ⟨g, L, e3, e4, _, _⟩ := hfr2 p2
        rcases hk with ⟨rfl, _, _⟩ | ⟨_, rfl, _⟩
        · exact absurd p1 (Nat.lt_irrefl _)
        · cases e1
          rw [e3] at e2
          cases e2
          exact Nat.ne_of_lt (Nat.lt_of_lt_of_le hlt4 e4)
      have HZ : Hid (Top (Q.take k1) ∧ Top rs ∧ val 18446744073709551616 xs = val 18446744073709551616 (Q.take k1) * val 18446744073709551616 ys + val 18446744073709551616 rs ∧ val 18446744073709551616 rs < val 18446744073709551616 ys) :=
        ⟨htr.Top, htop, by rw [htr.val]; exact hE.1, hE.2⟩
      have HBB : Hid (Below w0.heap.size w0 w5) := hB1.trans ((hb.trans (hb5.mono hb.size)).mono hB1.size)
      clear hE hrem htr htop hk hnQ hnR hb hb5 hbQ5
      go_wp2
      go_ret2
      exact ⟨_, _, _, _, _, _, _, _, rfl, hn1, hn2, HZ.out, hfr1, hfr2', hsep, HBB.out⟩
end Go.Proofs.Ytchmlfjjgehbkaa

namespace Go.Proofs.Ytchmlfjjgehbkaa
open Go.RowKit

set_option maxHeartbeats 400000 in
theorem of_new (n : Int) (w : World) (hn : 0 ≤ n ∧ n < 18446744073709551616) :
    Calls Try.prog 62 #[.int .u64 n] w fun e w' => ∃ a len cap, e = .returned (.slice a len cap) ∧ Nums w' a len cap (ofZ n) ∧ Fresh w w' a len ∧ Below w.heap.size w w' := by
  by_cases h0 : n = 0
  · subst h0
    go_enter Try.func62, Try.ntmps62
    go_wp2
    go_ret
    exact ⟨none, 0, 0, rfl, Nums.nil _, fun hp => absurd hp (Nat.lt_irrefl _), Below.refl _ _⟩
  · have hne : (n == 0) = false := by simp [h0]
    go_enter Try.func62, Try.ntmps62
    go_wp2
    go_ret
    exact ⟨_, _, _, rfl, by rw [ofZ, if_neg h0]; exact Nums.lit1 w n hn _, fun _ => ⟨_, [n], rfl, Nat.le_refl _, ⟨#[.int .u64 n], by show (w.heap.push _)[w.heap.size]? = _; simp, by simp⟩, Nat.le_refl _⟩, (Below.refl _ _).alloc (Nat.le_refl _) _⟩

/-- What is told of a quotient. -/
def ResDiv (zs ys qs rs : List Int) (err : Int) : Prop :=
  if rightB zs && rightB ys then (if ys.length = 0 then err = 3 ∧ qs = [] ∧ rs = [] else
    err = 0 ∧ Digs 18446744073709551616 qs ∧ Digs 18446744073709551616 rs ∧ rightB qs = true ∧ rightB rs = true ∧ val 18446744073709551616 qs = val 18446744073709551616 zs / val 18446744073709551616 ys ∧ val 18446744073709551616 rs = val 18446744073709551616 zs % val 18446744073709551616 ys)
  else err = 1 ∧ qs = [] ∧ rs = []

theorem ResDiv.unique {zs ys qs rs qs' rs' : List Int} {e f : Int} (h : ResDiv zs ys qs rs e) (h' : ResDiv zs ys qs' rs' f) : qs = qs' ∧ rs = rs' ∧ e = f := by
  unfold ResDiv at h h'
  split at h
  · rename_i hc
    rw [if_pos hc] at h'
    split at h
    · rename_i hc2
      rw [if_pos hc2] at h'
      obtain ⟨rfl, rfl, rfl⟩ := h
      obtain ⟨rfl, rfl, rfl⟩ := h'
      exact ⟨rfl, rfl, rfl⟩
    · rename_i hc2
      rw [if_neg hc2] at h'
      obtain ⟨rfl, d1, d2, t1, t2, v1, v2⟩ := h
      obtain ⟨rfl, d3, d4, t3, t4, v3, v4⟩ := h'
      exact ⟨val_inj (by decide) d1 d3 (right_top t1) (right_top t3) (v1.trans v3.symm), val_inj (by decide) d2 d4 (right_top t2) (right_top t4) (v2.trans v4.symm), rfl⟩
  · rename_i hc
    rw [if_neg hc] at h'
    obtain ⟨rfl, rfl, rfl⟩ := h
    obtain ⟨rfl, rfl, rfl⟩ := h'
    exact ⟨rfl, rfl, rfl⟩

theorem right_pos {zs : List Int} (hd : Digs 18446744073709551616 zs) (hr : rightB zs = true) (h : zs.length ≠ 0) : 0 < val 18446744073709551616 zs := by
  have := val_ge (B := 18446744073709551616) (by decide) hd (right_top hr) (by intro e; rw [e] at h; exact h rfl)
  have := pow_pos' (B := 18446744073709551616) (by decide) (zs.length - 1)
  omega

theorem resdiv_mk {zs ys qs rs : List Int} (hz : Digs 18446744073709551616 zs) (hy : Digs 18446744073709551616 ys) (hr : rightB zs = true) (hr' : rightB ys = true) (h0 : ys.length ≠ 0) (dq : Digs 18446744073709551616 qs) (dr : Digs 18446744073709551616 rs) (tq : Top qs) (tr : Top rs)
    (e : val 18446744073709551616 zs = val 18446744073709551616 qs * val 18446744073709551616 ys + val 18446744073709551616 rs) (hlt : val 18446744073709551616 rs < val 18446744073709551616 ys) : ResDiv zs ys qs rs 0 := by
  have hp := right_pos hy hr' h0
  have nr := val_nonneg (B := 18446744073709551616) (by decide) dr
  have nq := val_nonneg (B := 18446744073709551616) (by decide) dq
  have lz := val_lt_pow (B := 18446744073709551616) (by decide) hz (right_len hr)
  have ly := val_lt_pow (B := 18446744073709551616) (by decide) hy (right_len hr')
  have f : val 18446744073709551616 qs * 1 ≤ val 18446744073709551616 qs * val 18446744073709551616 ys := Int.mul_le_mul_of_nonneg_left (by omega) nq
  have l1 : qs.length ≤ 64 := len_le (B := 18446744073709551616) (by decide) dq tq (by omega)
  have l2 : rs.length ≤ 64 := len_le (B := 18446744073709551616) (by decide) dr tr (by omega)
  rw [ResDiv, hr, hr', Bool.and_true, if_pos rfl, if_neg h0]
  refine ⟨rfl, dq, dr, right_mk l1 tq, right_mk l2 tr, ?_, ?_⟩
  · rw [e, Int.add_comm, Int.add_mul_ediv_right _ _ (by omega), Int.ediv_eq_zero_of_lt nr hlt, Int.zero_add]
  · rw [e, Int.add_comm, Int.add_mul_emod_self_right, Int.emod_eq_of_lt nr hlt]

theorem resdiv_one {qs rs : List Int} {e : Int} (h : ResDiv [1] [1] qs rs e) : qs.length = 1 := by
  have h2 : ResDiv [1] [1] [1] [] 0 := resdiv_mk (by intro x hx; simp at hx; omega) (by intro x hx; simp at hx; omega) (by decide) (by decide) (by decide) (by intro x hx; simp at hx; omega) (Digs.nil _) (by simp [Top]) (.inl rfl) (by decide) (by decide)
  rw [(h.unique h2).1]; rfl

theorem res_fits {v : Int} {ls : List Int} {e : Int} (h : Res v ls e) (hv : v < 18446744073709551616 ^ 64) : e = 0 ∧ Digs 18446744073709551616 ls ∧ rightB ls = true ∧ val 18446744073709551616 ls = v := by
  rcases h with ⟨rfl, hd, ht, hl, hv'⟩ | ⟨_, _, zs, hd, ht, hv', hl⟩
  · exact ⟨rfl, hd, right_mk hl ht, hv'⟩
  · have := len_le (B := 18446744073709551616) (by decide) hd ht (k := 64) (by omega)
    omega

theorem Fresh.none (w0 w : World) : Fresh w0 w none 0 := fun hp => absurd hp (Nat.lt_irrefl _)

set_option maxHeartbeats 1600000 in
theorem div_any (a b : Option Addr) (la ca lb cb : Nat) (zs ys : List Int) (w : World) (h : Nums w a la ca zs) (h' : Nums w b lb cb ys) :
    Calls Try.prog 65 #[.slice a la ca, .slice b lb cb] w fun e w' => ∃ a1 k1 c1 qs a2 k2 c2 rs err, e = .returned (.tuple #[.slice a1 k1 c1, .slice a2 k2 c2, .int .i64 err]) ∧ Nums w' a1 k1 c1 qs ∧ Nums w' a2 k2 c2 rs ∧
      ResDiv zs ys qs rs err ∧ Fresh w w' a1 k1 ∧ Fresh w w' a2 k2 ∧ (0 < k1 → 0 < k2 → ∀ x y, a1 = some x → a2 = some y → x.block ≠ y.block) ∧ Below w.heap.size w w' := by
  have hzd := h.digs
  have hyd := h'.digs
  have hzl := h.hlen
  have hyl := h'.hlen
  cases hr : rightB zs with
  | false =>
    clear hzl hyl
    go_enter Try.func65, Try.ntmps65
    go_wp2_with fail
    refine (right_any _ _ _ _ _ h).mono ?_
    rintro e w' ⟨rfl, rfl⟩
    go_wp2_with fail
    go_ret3
    exact ⟨none, 0, 0, [], none, 0, 0, [], 1, rfl, Nums.nil _, Nums.nil _, by simp [ResDiv, hr], Fresh.none _ _, Fresh.none _ _, fun hp => absurd hp (Nat.lt_irrefl _), Below.refl _ _⟩
  | true =>
  cases hr' : rightB ys with
  | false =>
    clear hzl hyl
    go_enter Try.func65, Try.ntmps65
    go_wp2_with fail
    refine (right_any _ _ _ _ _ h).mono ?_
    rintro e w' ⟨rfl, rfl⟩
    go_wp2_with fail
    refine (right_any _ _ _ _ _ h').mono ?_
    rintro e w' ⟨rfl, rfl⟩
    go_wp2_with fail
    go_ret3
    exact ⟨none, 0, 0, [], none, 0, 0, [], 1, rfl, Nums.nil _, Nums.nil _, by simp [ResDiv, hr'], Fresh.none _ _, Fresh.none _ _, fun hp => absurd hp (Nat.lt_irrefl _), Below.refl _ _⟩
  | true =>
    have hla : la ≤ 64 := by have := right_len hr; omega
    have hlb : lb ≤ 64 := by have := right_len hr'; omega
    have hcn : cmpN zs ys = cmpZ (val 18446744073709551616 zs) (val 18446744073709551616 ys) := by simp [cmpN, hr, hr']
    by_cases h0 : lb = 0
    · subst h0
      have HP : Hid (ResDiv zs ys [] [] 3) := (show ResDiv zs ys [] [] 3 by simp [ResDiv, hr, hr', hyl])
      clear hzl hyl hcn
      go_enter Try.func65, Try.ntmps65
      go_wp2_with fail
      refine (right_any _ _ _ _ _ h).mono ?_
      rintro e w' ⟨rfl, rfl⟩
      go_wp2_with fail
      refine (right_any _ _ _ _ _ h').mono ?_
      rintro e w0 ⟨rfl, rfl⟩
      go_wp2_with fail
      go_ret3
      exact ⟨none, 0, 0, [], none, 0, 0, [], 3, rfl, Nums.nil _, Nums.nil _, HP.out, Fresh.none _ _, Fresh.none _ _, fun hp => absurd hp (Nat.lt_irrefl _), Below.refl _ _⟩
    · have hmk : ∀ qs rs : List Int, Digs 18446744073709551616 qs → Digs 18446744073709551616 rs → Top qs → Top rs → val 18446744073709551616 zs = val 18446744073709551616 qs * val 18446744073709551616 ys + val 18446744073709551616 rs → val 18446744073709551616 rs < val 18446744073709551616 ys → ResDiv zs ys qs rs 0 :=
        fun qs rs => resdiv_mk hzd hyd hr hr' (by omega)
      have HMK : Hid (∀ qs rs : List Int, Digs 18446744073709551616 qs → Digs 18446744073709551616 rs → Top qs → Top rs → val 18446744073709551616 zs = val 18446744073709551616 qs * val 18446744073709551616 ys + val 18446744073709551616 rs → val 18446744073709551616 rs < val 18446744073709551616 ys → ResDiv zs ys qs rs 0) := hmk
      clear hmk
      have hb0 : ((lb : Int) == 0) = false := by simp; omega
      by_cases hlt : val 18446744073709551616 zs < val 18446744073709551616 ys
      · have hc1 : cmpN zs ys = -1 := by rw [hcn, cmpZ_lt hlt]
        have HP : Hid (ResDiv zs ys [] zs 0) := HMK.out [] zs (Digs.nil _) hzd (.inl rfl) (right_top hr) (by rw [val_nil]; omega) hlt
        clear hcn hlt hzl hyl
        go_enter Try.func65, Try.ntmps65
        go_wp2_with fail
        refine (right_any _ _ _ _ _ h).mono ?_
        rintro e w' ⟨rfl, rfl⟩
        go_wp2_with fail
        refine (right_any _ _ _ _ _ h').mono ?_
        rintro e w0 ⟨rfl, rfl⟩
        go_wp2_with fail
        refine (cmp_any _ _ _ _ _ _ _ _ _ h h').mono ?_
        rintro e w1 ⟨rfl, hb1⟩
        rw [hc1]
        clear hc1
        go_wp2_with fail
        refine (clone_any _ _ _ _ _ (h.below hb1) (by omega)).mono ?_
        rintro e w2 ⟨da, dn, dc, rfl, hd, hfr, hb2⟩
        have hb12 := hb1.trans (hb2.mono hb1.size)
        have hfr' : Fresh w0 w2 da dn := fun hp => by
          obtain ⟨g, e1, e2, e3⟩ := hfr hp
          exact ⟨g, zs, e1, by have := hb1.size; omega, e3, by have := hd.hlen; omega⟩
        clear hfr
        go_wp2_with fail
        go_ret3
        exact ⟨none, 0, 0, [], _, _, _, _, 0, rfl, Nums.nil _, hd, HP.out, Fresh.none _ _, hfr', fun hp => absurd hp (Nat.lt_irrefl _), hb12⟩
      · have hc1 : ¬ cmpN zs ys < 0 := by rw [hcn]; unfold cmpZ; rw [if_neg hlt]; split <;> omega
        have hle : lb ≤ la := by
          by_cases hc : lb ≤ la
          · exact hc
          · exact absurd (val_lt_of_len (B := 18446744073709551616) (by decide) hzd hyd (right_top hr') (by omega)) hlt
        clear hcn hlt
        obtain ⟨cc, hcc⟩ : ∃ cc, cc = cmpN zs ys := ⟨_, rfl⟩
        rw [← hcc] at hc1
        have HC : Hid (cc = cmpN zs ys) := hcc
        clear hcc
        have htop : ys.getD (lb - 1) 0 ≠ 0 := by
          rcases right_top hr' with e | e
          · rw [e] at hyl; simp at hyl; omega
          · rw [hyl] at e; exact e
        by_cases h1 : lb = 1
        · subst h1
          obtain ⟨d, rfl⟩ : ∃ d, ys = [d] := List.length_eq_one_iff.1 hyl
          have hd0 : d ≠ 0 := by simpa using htop
          have hdb := hyd d (by simp)
          obtain ⟨b1, o1, rfl, hc⟩ := h'.cells (by omega)
          have hdv : val 18446744073709551616 [d] = d := by simp [val]
          have HZL : Hid (zs.length = la) := hzl
          clear hzl hyl htop
          go_enter Try.func65, Try.ntmps65
          go_wp2_with fail
          refine (right_any _ _ _ _ _ h).mono ?_
          rintro e w' ⟨rfl, rfl⟩
          go_wp2_with fail
          refine (right_any _ _ _ _ _ h').mono ?_
          rintro e w0 ⟨rfl, rfl⟩
          go_wp2_with fail
          refine (cmp_any _ _ _ _ _ _ _ _ _ h h').mono ?_
          rintro e w1 ⟨rfl, hb1⟩
          rw [← HC.out]
          go_wp2_with fail
          refine (clone_any _ _ _ _ _ (h.below hb1) (by omega)).mono ?_
          rintro e w2 ⟨da, dn, dc, rfl, hd, hfr, hb2⟩
          have hb12 := hb1.trans (hb2.mono hb1.size)
          obtain rfl : la = dn := by have := hd.hlen; have := HZL.out; omega
          have hy2 := h'.below hb12
          obtain ⟨g, hs, hgge, hblk⟩ := hfr (by omega)
          subst hs
          have c2 : w2.cell? ⟨b1, o1, none⟩ = some (.int .u64 d) := by
            obtain ⟨b3, o3, e3, hc3⟩ := hy2.cells (by omega)
            cases e3
            exact hc3 0 (by omega)
          have hdm := hd.hmax
          have hdc := hd.hcap
          have hg0 : w0.heap.size ≤ g := by have := hb1.size; omega
          clear hfr hc
          go_wp2_with fail
          refine (divideBy_any (some ⟨g, 0, none⟩) g la dc zs d _ (fun _ => rfl) (fun _ => hblk) hzd (by have := HZL.out; omega) (by omega) (by omega)).mono ?_
          rintro e w3 ⟨M, r, rfl, hbM, hMd, hMl, -, hrr, hv, hg3⟩
          rw [vs_all _ M (by have := HZL.out; omega), vs_all _ zs (by have := HZL.out; omega)] at hv
          have hb3 := hb12.trans (below_of_grown hg3 hg0 hb12.size)
          have hbM' := hbM (by omega)
          have hM : Nums w3 (some ⟨g, 0, none⟩) la dc M := ⟨by rw [hMl]; exact HZL.out, hdc, hdm, fun hp => ⟨g, 0, rfl, fun i hi => by rw [Nat.zero_add]; exact hbM'.cell (by have := HZL.out; omega)⟩, hMd⟩
          have HV : Hid (val 18446744073709551616 zs = d * val 18446744073709551616 M + r ∧ M.length = zs.length) := ⟨hv, hMl⟩
          clear hv hMl
          go_wp2_with fail
          refine (trimmed_any _ _ _ _ _ hM).mono ?_
          rintro e w4 ⟨a', k, cap', rfl, htr, hk, hw4⟩
          subst hw4
          go_wp2_with fail
          refine (of_new r _ ⟨hrr.1, by omega⟩).mono ?_
          rintro e w5 ⟨a2, k2, c2', rfl, hn2, hfr2, hb5⟩
          have hkl : k ≤ la := by have := htr.le; have := hM.hlen; omega
          have hn4 : Nums w5 a' k cap' (M.take k) := by
            rcases hk with ⟨rfl, rfl, rfl⟩ | ⟨_, rfl, rfl⟩
            · simpa using Nums.nil w5
            · exact (hM.below hb5).take hkl
          have hlt4 := hbM'.lt
          have hbM5 := hbM'.below hb5 hlt4
          have hfr4 : Fresh w0 w5 a' k := fun hp => by
            rcases hk with ⟨rfl, _, _⟩ | ⟨_, rfl, _⟩
            · exact absurd hp (Nat.lt_irrefl _)
            · exact ⟨g, M, rfl, hg0, hbM5, by have := HV.out.2; have := HZL.out; omega⟩
          have hfr5 : Fresh w0 w5 a2 k2 := fun hp => by
            obtain ⟨g5, L, e1, e2, e3, e4⟩ := hfr2 hp
            exact ⟨g5, L, e1, by have := hb3.size; omega, e3, e4⟩
          have hsep : 0 < k → 0 < k2 → ∀ x y, a' = some x → a2 = some y → x.block ≠ y.block := fun p1 p2 x y e1 e2 => by
            obtain ⟨g5, L, e3, e4, _, _⟩ := hfr2 p2
            rcases hk with ⟨rfl, _, _⟩ | ⟨_, rfl, _⟩
            · exact absurd p1 (Nat.lt_irrefl _)
            · cases e1
              rw [e3] at e2
              cases e2
              exact Nat.ne_of_lt (Nat.lt_of_lt_of_le hlt4 e4)
          have hrv : val 18446744073709551616 (ofZ r) = r := by unfold ofZ; split <;> simp_all [val]
          have hrt : Top (ofZ r) := by unfold ofZ Top; split <;> simp_all
          have HR : Hid (ResDiv zs [d] (M.take k) (ofZ r) 0) := HMK.out _ _ (hMd.take k) hn2.digs htr.Top hrt (by rw [htr.val, hdv, hrv, HV.out.1, Int.mul_comm]) (by rw [hrv, hdv]; exact hrr.2)
          have HBB : Hid (Below w0.heap.size w0 w5) := hb3.trans (hb5.mono hb3.size)
          clear htr hk hrv hrt hb5 hb3 hb12 hb1 hb2 hM hbM hbM' hbM5 hdv
          go_wp2_with fail
          go_ret3
          exact ⟨_, _, _, _, _, _, _, _, _, rfl, hn4, hn2, HR.out, hfr4, hfr5, hsep, HBB.out⟩
        · obtain ⟨n, rfl⟩ : ∃ n, lb = n + 1 := ⟨lb - 1, by omega⟩
          have hn1 : n ≠ 0 := by omega
          have hb1' : (((n + 1 : Nat) : Int) == 1) = false := by simp; omega
          have hb2' : ((n : Int) + 1 == 1) = false := by simp; omega
          have hb3' : ((n : Int) + 1 == 0) = false := by simp; omega
          have htp : 0 < ys.getD n 0 := by have := (hyd.getD (by decide) n).1; simp only [Nat.add_sub_cancel] at htop; omega
          clear hzl hyl htop
          go_enter Try.func65, Try.ntmps65
          go_wp2_with fail
          refine (right_any _ _ _ _ _ h).mono ?_
          rintro e w' ⟨rfl, rfl⟩
          go_wp2_with fail
          refine (right_any _ _ _ _ _ h').mono ?_
          rintro e w0 ⟨rfl, rfl⟩
          go_wp2_with fail
          refine (cmp_any _ _ _ _ _ _ _ _ _ h h').mono ?_
          rintro e w1 ⟨rfl, hb1⟩
          rw [← HC.out]
          go_wp2_with fail
          refine (longDivision_any _ _ _ _ n _ _ _ _ (h.below hb1) (h'.below hb1) (by omega) (by omega) htp).mono ?_
          rintro e w2 ⟨a1, k1, c1, qs, a2, k2, c2, rs, rfl, hq, hrn, hz, hf1, hf2, hsep, hb2⟩
          have hb12 := hb1.trans (hb2.mono hb1.size)
          have HR : Hid (ResDiv zs ys qs rs 0) := HMK.out _ _ hq.digs hrn.digs hz.1 hz.2.1 hz.2.2.1 hz.2.2.2
          have hg1 : Fresh w0 w2 a1 k1 := fun hp => by
            obtain ⟨g5, L, e1, e2, e3, e4⟩ := hf1 hp
            exact ⟨g5, L, e1, by have := hb1.size; omega, e3, e4⟩
          have hg2 : Fresh w0 w2 a2 k2 := fun hp => by
            obtain ⟨g5, L, e1, e2, e3, e4⟩ := hf2 hp
            exact ⟨g5, L, e1, by have := hb1.size; omega, e3, e4⟩
          clear hz hf1 hf2
          go_wp2_with fail
          go_ret3
          exact ⟨_, _, _, _, _, _, _, _, _, rfl, hq, hrn, HR.out, hg1, hg2, hsep, hb12⟩
end Go.Proofs.Ytchmlfjjgehbkaa

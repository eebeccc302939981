/-
  Contracts of movedUp and movedDown: a number times, and by, a power of 2.
-/
import Derived.Test.YtaipkganijofjabDiv64
import Derived.Test.YtaipkganijofjabSum
namespace Go.Proofs.Ytaipkganijofjab
open Go.RowKit

theorem pr_eq {p : Nat} (hp : p ≤ 64) : (2 : Int) ^ p * 2 ^ (64 - p) = 18446744073709551616 := by rw [← Int.pow_add, show p + (64 - p) = 64 by omega]; decide

/-- The two parts of a word that is moved up by p. -/
theorem shl_parts {g : Int} {p : Nat} (hg : 0 ≤ g ∧ g < 18446744073709551616) (hp : p ≤ 64) :
    IntKind.u64.wrap (g * 2 ^ p) + 18446744073709551616 * (g / 2 ^ (64 - p)) = g * 2 ^ p ∧ IntKind.u64.wrap (g * 2 ^ p) = g % 2 ^ (64 - p) * 2 ^ p ∧ (0 ≤ g / 2 ^ (64 - p) ∧ g / 2 ^ (64 - p) < 2 ^ p) ∧ (0 ≤ IntKind.u64.wrap (g * 2 ^ p) ∧ IntKind.u64.wrap (g * 2 ^ p) < 18446744073709551616) := by
  have hpr := pr_eq hp
  have h1 := pow_pos' (B := 2) (by decide) p
  have h2 := pow_pos' (B := 2) (by decide) (64 - p)
  have em := Int.emod_add_mul_ediv g (2 ^ (64 - p))
  have m0 := Int.emod_nonneg g (show (2 : Int) ^ (64 - p) ≠ 0 by omega)
  have m1 := Int.emod_lt_of_pos g h2
  have q0 : 0 ≤ g / 2 ^ (64 - p) := Int.ediv_nonneg hg.1 (by omega)
  have q1 : g / 2 ^ (64 - p) < 2 ^ p := Int.ediv_lt_of_lt_mul h2 (by rw [hpr]; exact hg.2)
  have e1 : g * 2 ^ p = g % 2 ^ (64 - p) * 2 ^ p + 18446744073709551616 * (g / 2 ^ (64 - p)) := by
    have : (g % 2 ^ (64 - p) + 2 ^ (64 - p) * (g / 2 ^ (64 - p))) * 2 ^ p = g * 2 ^ p := by rw [em]
    rw [Int.add_mul] at this
    rw [← this, ← hpr, Int.mul_comm (2 ^ p), Int.mul_assoc, Int.mul_assoc, Int.mul_comm (2 ^ p)]
  have e2 : g % 2 ^ (64 - p) * 2 ^ p < 18446744073709551616 := by
    have : g % 2 ^ (64 - p) * 2 ^ p < 2 ^ (64 - p) * 2 ^ p := Int.mul_lt_mul_of_pos_right m1 h1
    rw [Int.mul_comm (2 ^ (64 - p)), hpr] at this; exact this
  have e3 : 0 ≤ g % 2 ^ (64 - p) * 2 ^ p := mul_nonneg' m0 (by omega)
  have ew : IntKind.u64.wrap (g * 2 ^ p) = g % 2 ^ (64 - p) * 2 ^ p := by rw [IntKind.wrap_u64, e1]; omega
  exact ⟨by rw [ew]; omega, ew, ⟨q0, q1⟩, by rw [ew]; exact ⟨e3, e2⟩⟩

/-- Bits that do not meet. -/
theorem or_parts {g c : Int} {p : Nat} (hg : 0 ≤ g) (hw : g * 2 ^ p < 18446744073709551616) (c0 : 0 ≤ c) (c1 : c < 2 ^ p) (hp : p ≤ 64) : bits .or .u64 (g * 2 ^ p) c = g * 2 ^ p + c := by
  have h1 := pow_pos' (B := 2) (by decide) p
  have h2 := pow_pos' (B := 2) (by decide) (64 - p)
  have hpr := pr_eq hp
  have h3 : (2 : Int) ^ p * 1 ≤ 2 ^ p * 2 ^ (64 - p) := Int.mul_le_mul_of_nonneg_left (by omega) (by omega)
  exact or_shift hg hw c0 c1 (by omega)

/-- The limb that is laid at a place of what is moved up. -/
def upL (xs : List Int) (whole part : Nat) (i : Nat) : Int := IntKind.u64.wrap (limbZ xs ((i : Int) - whole) * 2 ^ part) + limbZ xs ((i : Int) - whole - 1) / 2 ^ (64 - part)

theorem limbZ_bd {xs : List Int} (h : Digs 18446744073709551616 xs) (i : Int) : 0 ≤ limbZ xs i ∧ limbZ xs i < 18446744073709551616 := by
  unfold limbZ; split
  · omega
  · exact h.getD (by decide) _

theorem upL_or {xs : List Int} (h : Digs 18446744073709551616 xs) (whole : Nat) {part : Nat} (hp : part ≤ 63) (i : Nat) :
    bits .or .u64 (IntKind.u64.wrap (limbZ xs ((i : Int) - whole) * 2 ^ part)) (limbZ xs ((i : Int) - whole - 1) / 2 ^ (64 - part)) = upL xs whole part i ∧ (0 ≤ upL xs whole part i ∧ upL xs whole part i < 18446744073709551616) := by
  have a := shl_parts (limbZ_bd h ((i : Int) - whole)) (show part ≤ 64 by omega)
  have b := shl_parts (limbZ_bd h ((i : Int) - whole - 1)) (show part ≤ 64 by omega)
  have hpr := pr_eq (show part ≤ 64 by omega)
  have h2 := pow_pos' (B := 2) (by decide) (64 - part)
  have hp' := pow_pos' (B := 2) (by decide) part
  unfold upL
  rw [a.2.1]
  have m0 : 0 ≤ limbZ xs ((i : Int) - whole) % 2 ^ (64 - part) := Int.emod_nonneg _ (by omega)
  have m1 : limbZ xs ((i : Int) - whole) % 2 ^ (64 - part) < 2 ^ (64 - part) := Int.emod_lt_of_pos _ h2
  have e2 : (limbZ xs ((i : Int) - whole) % 2 ^ (64 - part) + 1) * 2 ^ part ≤ 2 ^ (64 - part) * 2 ^ part := Int.mul_le_mul_of_nonneg_right (by omega) (by omega)
  rw [Int.mul_comm (2 ^ (64 - part)), hpr, Int.add_mul] at e2
  have e3 : 0 ≤ limbZ xs ((i : Int) - whole) % 2 ^ (64 - part) * 2 ^ part := mul_nonneg' m0 (by omega)
  exact ⟨or_parts m0 (by omega) b.2.2.1.1 b.2.2.1.2 (by omega), by omega, by omega⟩

/-- What the limbs that are moved up come to. -/
theorem up_sum {xs : List Int} (h : Digs 18446744073709551616 xs) (whole : Nat) {part : Nat} (hp : part ≤ 63) (i : Nat) :
    vs 18446744073709551616 (upL xs whole part) i + 18446744073709551616 ^ i * (limbZ xs ((i : Int) - whole - 1) / 2 ^ (64 - part)) = 2 ^ part * vs 18446744073709551616 (fun j => limbZ xs ((j : Int) - whole)) i := by
  induction i with
  | zero =>
    have : limbZ xs (((0 : Nat) : Int) - whole - 1) = 0 := by unfold limbZ; rw [if_pos (by omega)]
    rw [this]; simp [vs]
  | succ i ih =>
    have a := (shl_parts (limbZ_bd h ((i : Int) - whole)) (show part ≤ 64 by omega)).1
    have e1 : (((i + 1 : Nat) : Int) - whole - 1) = (i : Int) - whole := by omega
    simp only [vs]
    rw [e1, Int.mul_add, ← ih, Int.pow_succ, Int.mul_assoc]
    have e2 : upL xs whole part i = IntKind.u64.wrap (limbZ xs ((i : Int) - whole) * 2 ^ part) + limbZ xs ((i : Int) - whole - 1) / 2 ^ (64 - part) := rfl
    rw [e2, Int.mul_add]
    generalize (18446744073709551616 : Int) ^ i = P
    have e3 : 2 ^ part * (P * limbZ xs ((i : Int) - whole)) = P * (limbZ xs ((i : Int) - whole) * 2 ^ part) := by rw [Int.mul_left_comm, Int.mul_comm (2 ^ part)]
    have e4 : P * IntKind.u64.wrap (limbZ xs ((i : Int) - whole) * 2 ^ part) + P * (18446744073709551616 * (limbZ xs ((i : Int) - whole) / 2 ^ (64 - part))) = P * (limbZ xs ((i : Int) - whole) * 2 ^ part) := by rw [← Int.mul_add, a]
    rw [e3]
    omega

theorem up_limbs (xs : List Int) (whole : Nat) (m : Nat) (hm : whole ≤ m) : vs 18446744073709551616 (fun j => limbZ xs ((j : Int) - whole)) m = 18446744073709551616 ^ whole * val 18446744073709551616 (xs.take (m - whole)) := by
  obtain ⟨k, rfl⟩ : ∃ k, m = whole + k := ⟨m - whole, by omega⟩
  rw [vs_add, vs_zero (n := whole) _ (fun i hi => by unfold limbZ; rw [if_pos (by omega)]), Nat.add_sub_cancel_left, ← vs_val, Int.zero_add]
  congr 1
  exact vs_congr (fun i _ => by unfold limbZ; rw [if_neg (by omega)]; congr 1; omega)

theorem up_end {xs L : List Int} (h : Digs 18446744073709551616 xs) {whole part m : Nat} (hp : part ≤ 63) (hm : whole ≤ m) (hL : L.length = m) (hv : vs 18446744073709551616 (fun j => L.getD j 0) m = vs 18446744073709551616 (upL xs whole part) m)
    (hlt : val 18446744073709551616 xs * 2 ^ (64 * whole + part) < 18446744073709551616 ^ m) (hd : Digs 18446744073709551616 L) : val 18446744073709551616 L = val 18446744073709551616 xs * 2 ^ (64 * whole + part) := by
  have e0 : (2 : Int) ^ (64 * whole + part) = 18446744073709551616 ^ whole * 2 ^ part := by rw [Int.pow_add, Int.pow_mul]; congr 1
  rw [e0] at hlt ⊢
  have s := up_sum h whole hp m
  rw [up_limbs xs whole m hm, ← hv, vs_all _ L (by omega)] at s
  have hw := pow_pos' (B := 18446744073709551616) (by decide) whole
  have hpp := pow_pos' (B := 2) (by decide) part
  have hxn := val_nonneg (B := 18446744073709551616) (by decide) h
  have e1 : val 18446744073709551616 xs * (18446744073709551616 ^ whole * 2 ^ part) = 2 ^ part * (18446744073709551616 ^ whole * val 18446744073709551616 xs) := by rw [Int.mul_comm, Int.mul_comm (18446744073709551616 ^ whole), Int.mul_assoc]
  have hx : val 18446744073709551616 xs < 18446744073709551616 ^ (m - whole) := by
    by_cases hc : val 18446744073709551616 xs < 18446744073709551616 ^ (m - whole)
    · exact hc
    · have f1 : 18446744073709551616 ^ whole * 18446744073709551616 ^ (m - whole) ≤ 18446744073709551616 ^ whole * val 18446744073709551616 xs := Int.mul_le_mul_of_nonneg_left (by omega) (by omega)
      rw [← Int.pow_add, show whole + (m - whole) = m by omega] at f1
      have f2 : 1 * (18446744073709551616 ^ whole * val 18446744073709551616 xs) ≤ 2 ^ part * (18446744073709551616 ^ whole * val 18446744073709551616 xs) := Int.mul_le_mul_of_nonneg_right (by omega) (mul_nonneg' (by omega) hxn)
      omega
  have ht : val 18446744073709551616 (xs.take (m - whole)) = val 18446744073709551616 xs := by rw [← vs_val]; exact val_trunc' h hx
  rw [ht] at s
  rw [e1] at hlt ⊢
  have hn := val_nonneg (B := 18446744073709551616) (by decide) hd
  have hq := (shl_parts (limbZ_bd h ((m : Int) - whole - 1)) (show part ≤ 64 by omega)).2.2.1.1
  have hpm := pow_pos' (B := 18446744073709551616) (by decide) m
  generalize limbZ xs ((m : Int) - whole - 1) / 2 ^ (64 - part) = z at s hq
  by_cases hz : z = 0
  · subst hz; omega
  · have : 18446744073709551616 ^ m * 1 ≤ 18446744073709551616 ^ m * z := Int.mul_le_mul_of_nonneg_left (by omega) (by omega)
    omega

set_option maxHeartbeats 1600000 in
theorem movedUp_any (a : Option Addr) (la ca n m : Nat) (xs : List Int) (w : World) (h : Nums w a la ca xs) (hn : n ≤ 1000000) (hm : m ≤ 100000) (hwm : n / 64 ≤ m) (hlt : val 18446744073709551616 xs * 2 ^ n < 18446744073709551616 ^ m) :
    Calls Try.prog 81 #[.slice a la ca, .int .i64 (n : Int), .int .i64 (m : Int)] w fun e w' => ∃ L, e = .returned (.slice (some ⟨w.heap.size, 0, none⟩) m m) ∧ L.length = m ∧
      Blk w' w.heap.size L ∧ Digs 18446744073709551616 L ∧ val 18446744073709551616 L = val 18446744073709551616 xs * 2 ^ n ∧ Below w.heap.size w w' := by
  have hd := h.digs
  obtain ⟨whole, hwh⟩ : ∃ whole, whole = n / 64 := ⟨_, rfl⟩
  obtain ⟨part, hpa⟩ : ∃ part, part = n % 64 := ⟨_, rfl⟩
  have hp63 : part ≤ 63 := by omega
  have hnn : n = 64 * whole + part := by omega
  have hw1 : (n : Int) / 64 = (whole : Int) := by omega
  have hw2 : (n : Int) % 64 = (part : Int) := by omega
  have hwm' : whole ≤ m := by omega
  have HLT : Hid (val 18446744073709551616 xs * 2 ^ n < 18446744073709551616 ^ m ∧ n = 64 * whole + part) := ⟨hlt, hnn⟩
  clear hlt hnn hwh hpa hwm
  go_enter Try.func81, Try.ntmps81
  go_wp2_with (at_make; refine wpList_mk _ rfl _ _ 23 rfl Try.underlying23 .i64 .i64 _ _ m rfl rfl rfl rfl (by omega) ?_)
  intro w1 hb1 hbel hsz
  clear hw1 hw2
  go_wp2
  go_loopw [18] (fun iv wr => ∃ i : Nat, i ≤ m ∧ iv = .int .i64 i ∧ ∃ M, Blk wr w.heap.size M ∧ M.length = m ∧ Digs 18446744073709551616 M ∧ (∀ j, j < i → M.getD j 0 = upL xs whole part j) ∧ Below w.heap.size w wr) (fun iv _ => m - (intOf iv).toNat)
  case atStart => exact ⟨0, Nat.zero_le _, rfl, _, hb1, length_noughts _, fun x hx => by rw [(List.mem_replicate.1 hx).2]; omega, fun j hj => by omega, hbel⟩
  case round =>
    obtain ⟨i, hi, rfl, M, hbM, hMl, hMd, hMs, hb⟩ := hrel
    have HM : Hid (M.length = m ∧ Digs 18446744073709551616 M ∧ ∀ j, j < i → M.getD j 0 = upL xs whole part j) := ⟨hMl, hMd, hMs⟩
    clear hMl hMd hMs
    by_cases hlt : i < m
    · have hlti : (i : Int) < (m : Int) := by omega
      have hy := h.below hb
      have hu := upL_or hd whole hp63 i
      have b1 := limbZ_bd hd ((i : Int) - whole)
      have b2 := limbZ_bd hd ((i : Int) - whole - 1)
      obtain ⟨u, hu0⟩ : ∃ u, u = upL xs whole part i := ⟨_, rfl⟩
      rw [← hu0] at hu
      have HU : Hid (u = upL xs whole part i) := hu0
      have HO : Hid (bits .or .u64 (IntKind.u64.wrap (limbZ xs ((i : Int) - whole) * 2 ^ part)) (limbZ xs ((i : Int) - whole - 1) / 2 ^ (64 - part)) = u) := hu.1
      have hub := hu.2
      clear hu hu0
      have hcv : ∃ v, wr.cell? ⟨w.heap.size, i, none⟩ = some v := ⟨_, hbM.cell (by have := HM.out.1; omega)⟩
      obtain ⟨v0, hcv⟩ := hcv
      have hfz : wr.frozen? ⟨w.heap.size, i, none⟩ = false := hbM.frozen _
      have HB := (show Hid _ from hbM.set i u)
      have HG : Hid (Below w.heap.size w (wr.setCell ⟨w.heap.size, i, none⟩ (.int .u64 u))) := hb.setCell (Nat.le_refl _) _
      clear hbM hb
      have hwr1 : IntKind.i64.wrap ((i : Int) - whole) = (i : Int) - whole := by rw [IntKind.wrap_i64]; omega
      have hwr2 : IntKind.i64.wrap ((i : Int) - whole - 1) = (i : Int) - whole - 1 := by rw [IntKind.wrap_i64]; omega
      have hwr3 : IntKind.i64.wrap (64 - (part : Int)) = 64 - (part : Int) := by rw [IntKind.wrap_i64]; omega
      go_wp2_with fail
      go_region_with (go_at_call 101; refine (limb_any a la ca xs _ _ ?_).mono ?_; (exact ⟨hy.hlen, hy.hcap, hy.hmax, hy.cells, hy.word⟩); rintro e w' ⟨rfl, rfl⟩)
      all_goals
        rw [HO.out]
        go_wp2
        go_roundw
        case rel =>
          refine ⟨i + 1, by omega, by go_num, _, HB.out, by simpa using HM.out.1, HM.out.2.1.set _ hub, fun j hj => ?_, ⟨HG.out.os, HG.out.tape, HG.out.output, HG.out.size, HG.out.block⟩⟩
          by_cases hji : j = i
          · subst hji; rw [getD_set_self (by have := HM.out.1; omega)]; exact HU.out
          · rw [getD_set_ne (by omega)]; exact HM.out.2.2 j (by omega)
        case measure => simp [intOf]; omega
    · obtain rfl : i = m := by omega
      have hfin := up_end hd hp63 hwm' HM.out.1 (vs_congr (fun j hj => HM.out.2.2 j hj)) (by rw [← HLT.out.2]; exact HLT.out.1) HM.out.2.1
      rw [← HLT.out.2] at hfin
      have HF : Hid (val 18446744073709551616 M = val 18446744073709551616 xs * 2 ^ n) := hfin
      clear hfin
      go_wp2
      go_ret
      exact ⟨M, rfl, HM.out.1, hbM, HM.out.2.1, HF.out, hb⟩
end Go.Proofs.Ytaipkganijofjab

/-
  The contract of movedDown: a number by a power of 2, without the rest.
-/
import Derived.Test.YtaipkganijofjabMoved
import Derived.Test.YtaipkganijofjabAdd
namespace Go.Proofs.Ytaipkganijofjab
open Go.RowKit

theorem or_shift' {h c : Int} {s : Nat} (h0 : 0 ≤ h) (h1 : h * 2 ^ s < 18446744073709551616) (c0 : 0 ≤ c) (c1 : c < 2 ^ s) (c2 : c < 18446744073709551616) : bits .or .u64 c (h * 2 ^ s) = c + h * 2 ^ s := by
  obtain ⟨n, rfl⟩ := Int.eq_ofNat_of_zero_le h0
  obtain ⟨m, rfl⟩ := Int.eq_ofNat_of_zero_le c0
  have e1 : (n : Int) * 2 ^ s = ((2 ^ s * n : Nat) : Int) := by simp [Int.mul_comm]
  have e2 : ((2 ^ s : Nat) : Int) = (2 : Int) ^ s := by simp
  rw [← e2] at c1
  rw [e1] at h1 ⊢
  have h3 := bits_or_u64_nat m (2 ^ s * n) (by omega) (by omega)
  rw [Nat.or_comm, ← Nat.two_pow_add_eq_or_of_lt (by omega : m < 2 ^ s) n] at h3
  exact h3.trans (by rw [Int.natCast_add, Int.add_comm])

/-- The limb that is laid at a place of what is moved down. -/
def downL (xs : List Int) (whole part : Nat) (i : Nat) : Int := limbZ xs ((i : Int) + whole) / 2 ^ part + IntKind.u64.wrap (limbZ xs ((i : Int) + whole + 1) * 2 ^ (64 - part))

theorem down_parts {g g' : Int} {p : Nat} (hg : 0 ≤ g ∧ g < 18446744073709551616) (hg' : 0 ≤ g' ∧ g' < 18446744073709551616) (hp : p ≤ 63) :
    bits .or .u64 (g / 2 ^ p) (IntKind.u64.wrap (g' * 2 ^ (64 - p))) = g / 2 ^ p + IntKind.u64.wrap (g' * 2 ^ (64 - p)) ∧ (0 ≤ g / 2 ^ p + IntKind.u64.wrap (g' * 2 ^ (64 - p)) ∧ g / 2 ^ p + IntKind.u64.wrap (g' * 2 ^ (64 - p)) < 18446744073709551616) ∧
    2 ^ p * (g / 2 ^ p + IntKind.u64.wrap (g' * 2 ^ (64 - p))) = g - g % 2 ^ p + 18446744073709551616 * (g' % 2 ^ p) := by
  have a := shl_parts hg' (show 64 - p ≤ 64 by omega)
  have hpr := pr_eq (show p ≤ 64 by omega)
  rw [show 64 - (64 - p) = p by omega] at a
  have h1 := pow_pos' (B := 2) (by decide) p
  have h2 := pow_pos' (B := 2) (by decide) (64 - p)
  have em := Int.emod_add_mul_ediv g (2 ^ p)
  have m0 := Int.emod_nonneg g' (show (2 : Int) ^ p ≠ 0 by omega)
  have m1 := Int.emod_lt_of_pos g' h1
  have q0 : 0 ≤ g / 2 ^ p := Int.ediv_nonneg hg.1 (by omega)
  have q1 : g / 2 ^ p < 2 ^ (64 - p) := Int.ediv_lt_of_lt_mul h1 (by rw [Int.mul_comm, hpr]; exact hg.2)
  have q2 : g / 2 ^ p ≤ g := Int.ediv_le_self _ hg.1
  rw [a.2.1]
  have e2 : (g' % 2 ^ p + 1) * 2 ^ (64 - p) ≤ 2 ^ p * 2 ^ (64 - p) := Int.mul_le_mul_of_nonneg_right (by omega) (by omega)
  rw [hpr, Int.add_mul] at e2
  have e3 : 0 ≤ g' % 2 ^ p * 2 ^ (64 - p) := mul_nonneg' m0 (by omega)
  refine ⟨or_shift' m0 (by omega) q0 q1 (by omega), ⟨by omega, by omega⟩, ?_⟩
  rw [Int.mul_add, Int.mul_left_comm, hpr, Int.mul_comm (g' % 2 ^ p)]
  omega

theorem down_sum {xs : List Int} (h : Digs 18446744073709551616 xs) (whole : Nat) {part : Nat} (hp : part ≤ 63) (i : Nat) :
    2 ^ part * vs 18446744073709551616 (downL xs whole part) i = vs 18446744073709551616 (fun j => limbZ xs ((j : Int) + whole)) i - limbZ xs ((0 : Int) + whole) % 2 ^ part + 18446744073709551616 ^ i * (limbZ xs ((i : Int) + whole) % 2 ^ part) := by
  induction i with
  | zero => simp [vs]; omega
  | succ i ih =>
    have a := (down_parts (limbZ_bd h ((i : Int) + whole)) (limbZ_bd h ((i : Int) + whole + 1)) hp).2.2
    have e1 : (((i + 1 : Nat) : Int) + whole) = (i : Int) + whole + 1 := by omega
    simp only [vs]
    rw [e1, Int.mul_add, ih, Int.pow_succ, Int.mul_assoc]
    have e2 : downL xs whole part i = limbZ xs ((i : Int) + whole) / 2 ^ part + IntKind.u64.wrap (limbZ xs ((i : Int) + whole + 1) * 2 ^ (64 - part)) := rfl
    rw [← e2] at a
    generalize (18446744073709551616 : Int) ^ i = P
    have e3 : 2 ^ part * (P * downL xs whole part i) = P * (limbZ xs ((i : Int) + whole) - limbZ xs ((i : Int) + whole) % 2 ^ part + 18446744073709551616 * (limbZ xs ((i : Int) + whole + 1) % 2 ^ part)) := by rw [Int.mul_left_comm, a]
    rw [e3, Int.mul_add, Int.mul_sub]
    omega

theorem down_end {xs L : List Int} (h : Digs 18446744073709551616 xs) {whole part m : Nat} (hp : part ≤ 63) (hm : m + whole = xs.length) (hL : L.length = m) (hv : vs 18446744073709551616 (fun j => L.getD j 0) m = vs 18446744073709551616 (downL xs whole part) m) :
    ∃ rem, val 18446744073709551616 xs = val 18446744073709551616 L * 2 ^ (64 * whole + part) + rem ∧ 0 ≤ rem ∧ rem < 2 ^ (64 * whole + part) := by
  have e0 : (2 : Int) ^ (64 * whole + part) = 18446744073709551616 ^ whole * 2 ^ part := by rw [Int.pow_add, Int.pow_mul]; congr 1
  have s := down_sum h whole hp m
  rw [← hv, vs_all _ L (by omega)] at s
  have z : limbZ xs ((m : Int) + whole) = 0 := by
    unfold limbZ; rw [if_neg (by omega)]; simp only [List.getD]; rw [List.getElem?_eq_none (by omega)]; rfl
  have e1 : vs 18446744073709551616 (fun j => limbZ xs ((j : Int) + whole)) m = val 18446744073709551616 (xs.drop whole) := by
    rw [← vs_all 18446744073709551616 (xs.drop whole) (n := m) (by simp; omega)]
    refine vs_congr (fun i _ => ?_)
    unfold limbZ; rw [if_neg (by omega)]
    simp [List.getD, show ((i : Int) + whole).toNat = whole + i by omega]
  rw [z, e1] at s
  have hc := val_cut 18446744073709551616 xs whole
  have t0 := val_nonneg (B := 18446744073709551616) (by decide) (h.take whole)
  have t1 := val_lt (B := 18446744073709551616) (by decide) (h.take whole)
  rw [List.length_take, Nat.min_eq_left (by omega)] at t1
  have hp2 := pow_pos' (B := 2) (by decide) part
  have hw := pow_pos' (B := 18446744073709551616) (by decide) whole
  have g0 := Int.emod_nonneg (limbZ xs ((0 : Int) + whole)) (show (2 : Int) ^ part ≠ 0 by omega)
  have g1 := Int.emod_lt_of_pos (limbZ xs ((0 : Int) + whole)) hp2
  generalize limbZ xs ((0 : Int) + whole) % 2 ^ part = g at s g0 g1
  have e2 : val 18446744073709551616 (xs.drop whole) = 2 ^ part * val 18446744073709551616 L + g := by simp at s; omega
  refine ⟨val 18446744073709551616 (xs.take whole) + 18446744073709551616 ^ whole * g, ?_, ?_, ?_⟩
  · rw [hc, e2, e0, Int.mul_add, ← Int.mul_assoc, Int.mul_comm (val 18446744073709551616 L)]
    omega
  · have := mul_nonneg' (Int.le_of_lt hw) g0; omega
  · rw [e0]
    have f : 18446744073709551616 ^ whole * (g + 1) ≤ 18446744073709551616 ^ whole * 2 ^ part := Int.mul_le_mul_of_nonneg_left (by omega) (by omega)
    rw [Int.mul_add] at f
    omega

set_option maxHeartbeats 1600000 in
theorem movedDown_any (a : Option Addr) (la ca n : Nat) (xs : List Int) (w : World) (h : Nums w a la ca xs) (hla : la ≤ 10000) (hn : n < 64 * la) :
    Calls Try.prog 105 #[.slice a la ca, .int .i64 (n : Int)] w fun e w' => ∃ a' k cap' ls rem, e = .returned (.slice a' k cap') ∧ Nums w' a' k cap' ls ∧ Digs 18446744073709551616 ls ∧ Top ls ∧ k ≤ la ∧
      (val 18446744073709551616 xs = val 18446744073709551616 ls * 2 ^ n + rem ∧ 0 ≤ rem ∧ rem < 2 ^ n) ∧ Fresh w w' a' k ∧ Below w.heap.size w w' := by
  have hd := h.digs
  obtain ⟨whole, hwh⟩ : ∃ whole, whole = n / 64 := ⟨_, rfl⟩
  obtain ⟨part, hpa⟩ : ∃ part, part = n % 64 := ⟨_, rfl⟩
  have hp63 : part ≤ 63 := by omega
  have hnn : n = 64 * whole + part := by omega
  have hw1 : (n : Int) / 64 = (whole : Int) := by omega
  have hw2 : (n : Int) % 64 = (part : Int) := by omega
  obtain ⟨m, hm⟩ : ∃ m, m = la - whole := ⟨_, rfl⟩
  have hml : m + whole = la := by omega
  have hm' : m ≤ 100000 := by omega
  have HXL : Hid (xs.length = la) := h.hlen
  have HLT : Hid (n = 64 * whole + part) := hnn
  have hmi : (la : Int) - (whole : Int) = (m : Int) := by omega
  clear hnn hwh hpa hm
  go_enter Try.func105, Try.ntmps105
  go_wp2_with (at_make; refine wpList_mk _ rfl _ _ 23 rfl Try.underlying23 .i64 .i64 _ _ m rfl rfl (by omega) (by omega) (by omega) ?_)
  intro w1 hb1 hbel hsz
  clear hw1 hw2
  go_wp2
  go_loopw [20] (fun iv wr => ∃ i : Nat, i ≤ m ∧ iv = .int .i64 i ∧ ∃ M, Blk wr w.heap.size M ∧ M.length = m ∧ Digs 18446744073709551616 M ∧ (∀ j, j < i → M.getD j 0 = downL xs whole part j) ∧ Below w.heap.size w wr) (fun iv _ => m - (intOf iv).toNat)
  case atStart => exact ⟨0, Nat.zero_le _, rfl, _, hb1, length_noughts _, fun x hx => by rw [(List.mem_replicate.1 hx).2]; omega, fun j hj => by omega, hbel⟩
  case round =>
    obtain ⟨i, hi, rfl, M, hbM, hMl, hMd, hMs, hb⟩ := hrel
    have HM : Hid (M.length = m ∧ Digs 18446744073709551616 M ∧ ∀ j, j < i → M.getD j 0 = downL xs whole part j) := ⟨hMl, hMd, hMs⟩
    clear hMl hMd hMs
    by_cases hlt : i < m
    · have hlti : (i : Int) < (m : Int) := by omega
      have hy := h.below hb
      have b1 := limbZ_bd hd ((i : Int) + whole)
      have b2 := limbZ_bd hd ((i : Int) + whole + 1)
      have hu0' := down_parts b1 b2 hp63
      have hu : bits .or .u64 (limbZ xs ((i : Int) + whole) / 2 ^ part) (IntKind.u64.wrap (limbZ xs ((i : Int) + whole + 1) * 2 ^ (64 - part))) = downL xs whole part i ∧ (0 ≤ downL xs whole part i ∧ downL xs whole part i < 18446744073709551616) := ⟨hu0'.1, hu0'.2.1⟩
      clear hu0'
      obtain ⟨u, hu0⟩ : ∃ u, u = downL xs whole part i := ⟨_, rfl⟩
      rw [← hu0] at hu
      have HU : Hid (u = downL xs whole part i) := hu0
      have HO : Hid (bits .or .u64 (limbZ xs ((i : Int) + whole) / 2 ^ part) (IntKind.u64.wrap (limbZ xs ((i : Int) + whole + 1) * 2 ^ (64 - part))) = u) := hu.1
      have hub := hu.2
      clear hu hu0
      have hcv : ∃ v, wr.cell? ⟨w.heap.size, i, none⟩ = some v := ⟨_, hbM.cell (by have := HM.out.1; omega)⟩
      obtain ⟨v0, hcv⟩ := hcv
      have hfz : wr.frozen? ⟨w.heap.size, i, none⟩ = false := hbM.frozen _
      have HB := (show Hid _ from hbM.set i u)
      have HG : Hid (Below w.heap.size w (wr.setCell ⟨w.heap.size, i, none⟩ (.int .u64 u))) := hb.setCell (Nat.le_refl _) _
      clear hbM hb
      have hwr1 : IntKind.i64.wrap ((i : Int) + whole) = (i : Int) + whole := by rw [IntKind.wrap_i64]; omega
      have hwr2 : IntKind.i64.wrap ((i : Int) + whole + 1) = (i : Int) + whole + 1 := by rw [IntKind.wrap_i64]; omega
      have hwr3 : IntKind.i64.wrap (64 - (part : Int)) = 64 - (part : Int) := by rw [IntKind.wrap_i64]; omega
      go_wp2_with fail
      go_region_with (go_at_call 101; refine (limb_any a la ca xs _ _ ?_).mono ?_; (exact ⟨hy.hlen, hy.hcap, hy.hmax, hy.cells, hy.word⟩); rintro e w' ⟨rfl, rfl⟩)
      all_goals
        rw [HO.out]
        go_wp2
        go_roundw
        case rel =>
          refine ⟨i + 1, by omega, by go_num, _, HB.out, by simpa using HM.out.1, HM.out.2.1.set _ hub, fun j hj => ?_, ⟨HG.out.os, HG.out.tape, HG.out.output, HG.out.size, HG.out.block⟩⟩
          by_cases hji : j = i
          · subst hji; rw [getD_set_self (by have := HM.out.1; omega)]; exact HU.out
          · rw [getD_set_ne (by omega)]; exact HM.out.2.2 j (by omega)
        case measure => simp [intOf]; omega
    · obtain rfl : i = m := by omega
      obtain ⟨rem, hr1, hr2, hr3⟩ := down_end (L := M) hd hp63 (by have := HXL.out; omega) HM.out.1 (vs_congr (fun j hj => HM.out.2.2 j hj))
      rw [← HLT.out] at hr1 hr3
      have HF : Hid (val 18446744073709551616 xs = val 18446744073709551616 M * 2 ^ n + rem ∧ 0 ≤ rem ∧ rem < 2 ^ n) := ⟨hr1, hr2, hr3⟩
      clear hr1 hr2 hr3
      have hnum := hbM.nums HM.out.2.1 HM.out.1 (by omega)
      go_wp2_with fail
      refine (trimmed_any _ _ _ _ _ hnum).mono ?_
      rintro e w' ⟨a', k, cap', rfl, htr, hk, rfl⟩
      have hkl : k ≤ i := by have := htr.le; have := hnum.hlen; omega
      have hn4 : Nums w' a' k cap' (M.take k) := by
        rcases hk with ⟨rfl, rfl, rfl⟩ | ⟨_, rfl, rfl⟩
        · simpa using Nums.nil w'
        · exact hnum.take hkl
      have hfr : Fresh w w' a' k := fun hp => by
        rcases hk with ⟨rfl, _, _⟩ | ⟨_, rfl, _⟩
        · exact absurd hp (Nat.lt_irrefl _)
        · exact ⟨_, M, rfl, Nat.le_refl _, hbM, by have := HM.out.1; omega⟩
      have HT : Hid (Trim M k) := htr
      clear htr hk
      go_wp2_with fail
      go_ret
      exact ⟨_, _, _, M.take k, rem, rfl, hn4, HM.out.2.1.take k, HT.out.Top, by omega, by rw [HT.out.val]; exact HF.out, hfr, hb⟩
end Go.Proofs.Ytaipkganijofjab

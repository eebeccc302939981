/-
  The contract of longDivision: Knuth's division of a number by one of two limbs or more.
-/
import Derived.Test.YtaipkganijofjabTakeOut
import Derived.Test.YtaipkganijofjabMovedDown
namespace Go.Proofs.Ytaipkganijofjab
open Go.RowKit

theorem top_room {ys : List Int} {n s : Nat} (hy : Digs 18446744073709551616 ys) (hl : ys.length = n + 1) (hs : s ≤ 64) (h : ys.getD n 0 * 2 ^ s < 18446744073709551616) : val 18446744073709551616 ys * 2 ^ s < 18446744073709551616 ^ (n + 1) := by
  have hpr := pr_eq hs
  have p1 := pow_pos' (B := 2) (by decide) s
  have p2 := pow_pos' (B := 2) (by decide) (64 - s)
  have pn := pow_pos' (B := 18446744073709551616) (by decide) n
  have e := val_take_succ 18446744073709551616 ys n (by omega)
  rw [List.take_of_length_le (by omega)] at e
  have t := val_lt (B := 18446744073709551616) (by decide) (hy.take n)
  rw [List.length_take, Nat.min_eq_left (by omega)] at t
  have hd : ys.getD n 0 < 2 ^ (64 - s) := by
    by_cases hc : ys.getD n 0 < 2 ^ (64 - s)
    · exact hc
    · have : 2 ^ (64 - s) * 2 ^ s ≤ ys.getD n 0 * 2 ^ s := Int.mul_le_mul_of_nonneg_right (by omega) (by omega)
      rw [Int.mul_comm (2 ^ (64 - s)), hpr] at this
      omega
  have f1 : 18446744073709551616 ^ n * (ys.getD n 0 + 1) ≤ 18446744073709551616 ^ n * 2 ^ (64 - s) := Int.mul_le_mul_of_nonneg_left (by omega) (by omega)
  rw [Int.mul_add] at f1
  have f2 : val 18446744073709551616 ys * 2 ^ s < 18446744073709551616 ^ n * 2 ^ (64 - s) * 2 ^ s := Int.mul_lt_mul_of_pos_right (by omega) p1
  rw [Int.mul_assoc, Int.mul_comm (2 ^ (64 - s)), hpr] at f2
  rw [Int.pow_succ]; exact f2

/-- Where the division stands: k limbs of the quotient are still to come. -/
structure Stands (A D : Int) (nq m k : Nat) (Q R : List Int) : Prop where
  eq : A = vs 18446744073709551616 (fun j => Q.getD j 0) nq * D + vs 18446744073709551616 (fun j => R.getD j 0) m
  up : vs 18446744073709551616 (fun j => R.getD j 0) m < 18446744073709551616 ^ k * D
  zero : ∀ j, j < k → Q.getD j 0 = 0

theorem stands_win {A D : Int} {nq m k n : Nat} {Q R : List Int} (h : Stands A D nq m (k + 1) Q R) (hR : Digs 18446744073709551616 R) (hm : k + (n + 2) ≤ m) : vs 18446744073709551616 (fun i => R.getD (k + i) 0) (n + 2) < 18446744073709551616 * D := by
  obtain ⟨r, rfl⟩ : ∃ r, m = k + ((n + 2) + r) := ⟨m - k - (n + 2), by omega⟩
  have h1 := h.up
  rw [vs_add, vs_add 18446744073709551616 (fun i => R.getD (k + i) 0)] at h1
  have p1 := pow_pos' (B := 18446744073709551616) (by decide) k
  have n1 := vs_nonneg (B := 18446744073709551616) (f := fun j => R.getD j 0) (n := k) (by decide) (fun i _ => (hR.getD (by decide) _).1)
  have n2 := vs_nonneg (B := 18446744073709551616) (f := fun i => R.getD (k + (n + 2 + i)) 0) (n := r) (by decide) (fun i _ => (hR.getD (by decide) _).1)
  have n3 : 0 ≤ 18446744073709551616 ^ k * (18446744073709551616 ^ (n + 2) * vs 18446744073709551616 (fun i => R.getD (k + (n + 2 + i)) 0) r) := mul_nonneg' (by omega) (mul_nonneg' (Int.le_of_lt (pow_pos' (by decide) _)) n2)
  have e5 : (18446744073709551616 : Int) ^ (k + 1) * D = 18446744073709551616 ^ k * (18446744073709551616 * D) := by rw [Int.pow_succ, Int.mul_assoc]
  rw [Int.mul_add, e5] at h1
  by_cases hc : vs 18446744073709551616 (fun i => R.getD (k + i) 0) (n + 2) < 18446744073709551616 * D
  · exact hc
  · have : 18446744073709551616 ^ k * (18446744073709551616 * D) ≤ 18446744073709551616 ^ k * vs 18446744073709551616 (fun i => R.getD (k + i) 0) (n + 2) := Int.mul_le_mul_of_nonneg_left (by omega) (by omega)
    omega

theorem stands_next {A D : Int} {nq m k n : Nat} {Q R M : List Int} {q : Int} (h : Stands A D nq m (k + 1) Q R) (hR : Digs 18446744073709551616 R) (hM : Digs 18446744073709551616 M) (hm : k + (n + 2) ≤ m) (hk : k < nq) (hQ : Q.length = nq) (hD : D ≤ 18446744073709551616 ^ (n + 1))
    (hs : ∀ j, j < k ∨ k + (n + 2) ≤ j → M.getD j 0 = R.getD j 0) (e : vs 18446744073709551616 (fun i => R.getD (k + i) 0) (n + 2) = q * D + vs 18446744073709551616 (fun i => M.getD (k + i) 0) (n + 2)) (hlt : vs 18446744073709551616 (fun i => M.getD (k + i) 0) (n + 2) < D) :
    Stands A D nq m k (Q.set k q) M := by
  have p1 := pow_pos' (B := 18446744073709551616) (by decide) k
  have e1 := vs_seg (B := 18446744073709551616) (N := M) (M := R) hm hs
  have e2 : vs 18446744073709551616 (fun i => M.getD (k + i) 0) (n + 2) - vs 18446744073709551616 (fun i => R.getD (k + i) 0) (n + 2) = - (q * D) := by omega
  rw [e2, Int.mul_neg] at e1
  refine ⟨?_, ?_, fun j hj => by rw [getD_set_ne (by omega)]; exact h.zero j (by omega)⟩
  · rw [vs_set hk (by omega), h.zero k (by omega), Int.sub_zero, Int.add_mul, Int.mul_assoc, h.eq]
    omega
  · obtain ⟨r, rfl⟩ : ∃ r, m = k + ((n + 2) + r) := ⟨m - k - (n + 2), by omega⟩
    have h1 := h.up
    rw [vs_add, vs_add 18446744073709551616 (fun i => R.getD (k + i) 0)] at h1
    have e3 : vs 18446744073709551616 (fun i => M.getD (k + (n + 2 + i)) 0) r = vs 18446744073709551616 (fun i => R.getD (k + (n + 2 + i)) 0) r := vs_congr (fun i _ => hs _ (by omega))
    have n1 := vs_nonneg (B := 18446744073709551616) (f := fun j => R.getD j 0) (n := k) (by decide) (fun i _ => (hR.getD (by decide) _).1)
    have n2 := vs_nonneg (B := 18446744073709551616) (f := fun i => R.getD (k + (n + 2 + i)) 0) (n := r) (by decide) (fun i _ => (hR.getD (by decide) _).1)
    have n4 := vs_nonneg (B := 18446744073709551616) (f := fun i => R.getD (k + i) 0) (n := n + 2) (by decide) (fun i _ => (hR.getD (by decide) _).1)
    have l1 := vs_lt (B := 18446744073709551616) (f := fun j => M.getD j 0) (n := k) (by decide) (fun i _ => hM.getD (by decide) _)
    have z : vs 18446744073709551616 (fun i => R.getD (k + (n + 2 + i)) 0) r = 0 := by
      by_cases hc : vs 18446744073709551616 (fun i => R.getD (k + (n + 2 + i)) 0) r = 0
      · exact hc
      · have f1 : 18446744073709551616 ^ (n + 2) * 1 ≤ 18446744073709551616 ^ (n + 2) * vs 18446744073709551616 (fun i => R.getD (k + (n + 2 + i)) 0) r := Int.mul_le_mul_of_nonneg_left (by omega) (Int.le_of_lt (pow_pos' (by decide) _))
        have f2 : 18446744073709551616 ^ k * (18446744073709551616 ^ (n + 2) * 1) ≤ 18446744073709551616 ^ k * (vs 18446744073709551616 (fun i => R.getD (k + i) 0) (n + 2) + 18446744073709551616 ^ (n + 2) * vs 18446744073709551616 (fun i => R.getD (k + (n + 2 + i)) 0) r) := Int.mul_le_mul_of_nonneg_left (by omega) (by omega)
        have f3 : 18446744073709551616 ^ (k + 1) * D ≤ 18446744073709551616 ^ (k + 1) * 18446744073709551616 ^ (n + 1) := Int.mul_le_mul_of_nonneg_left hD (Int.le_of_lt (pow_pos' (by decide) _))
        have e5 : (18446744073709551616 : Int) ^ (k + 1) * 18446744073709551616 ^ (n + 1) = 18446744073709551616 ^ k * 18446744073709551616 ^ (n + 2) := by rw [← Int.pow_add, ← Int.pow_add, show k + 1 + (n + 1) = k + (n + 2) by omega]
        rw [e5] at f3
        rw [Int.mul_one] at f2
        omega
    rw [vs_add, vs_add 18446744073709551616 (fun i => M.getD (k + i) 0), e3, z]
    have f4 : 18446744073709551616 ^ k * (vs 18446744073709551616 (fun i => M.getD (k + i) 0) (n + 2) + 1) ≤ 18446744073709551616 ^ k * D := Int.mul_le_mul_of_nonneg_left (by omega) (by omega)
    rw [Int.mul_add] at f4
    simp only [Int.mul_zero, Int.add_zero]
    omega

theorem ld_end {va vb Q R D A ls rem : Int} {s : Nat} (hA : A = va * 2 ^ s) (hD : D = vb * 2 ^ s) (e : A = Q * D + R) (hR : R < D) (hl : R = ls * 2 ^ s + rem) (h0 : 0 ≤ rem) (h1 : rem < 2 ^ s) : va = Q * vb + ls ∧ ls < vb := by
  have hpp := pow_pos' (B := 2) (by decide) s
  generalize (2 : Int) ^ s = p at *
  have e1 : (va - Q * vb - ls) * p = rem := by
    rw [Int.sub_mul, Int.sub_mul, ← hA, Int.mul_assoc, ← hD]; omega
  have hz : va - Q * vb - ls = 0 := by
    by_cases hc : va - Q * vb - ls = 0
    · exact hc
    · by_cases hp : 0 < va - Q * vb - ls
      · have : 1 * p ≤ (va - Q * vb - ls) * p := Int.mul_le_mul_of_nonneg_right (by omega) (by omega)
        omega
      · have : (va - Q * vb - ls) * p ≤ (-1) * p := Int.mul_le_mul_of_nonneg_right (by omega) (by omega)
        omega
  refine ⟨by omega, ?_⟩
  by_cases hc : ls < vb
  · exact hc
  · have : vb * p ≤ ls * p := Int.mul_le_mul_of_nonneg_right (by omega) (by omega)
    omega

theorem movedUp_z (a : Option Addr) (la ca n m : Nat) (nz mz : Int) (xs : List Int) (w : World) (h : Nums w a la ca xs) (hn : n ≤ 1000000) (hm : m ≤ 100000) (hwm : n / 64 ≤ m) (hlt : val 18446744073709551616 xs * 2 ^ n < 18446744073709551616 ^ m) (e1 : nz = (n : Int)) (e2 : mz = (m : Int)) :
    Calls Try.prog 81 #[.slice a la ca, .int .i64 nz, .int .i64 mz] w fun e w' => ∃ L, e = .returned (.slice (some ⟨w.heap.size, 0, none⟩) m m) ∧ L.length = m ∧
      Blk w' w.heap.size L ∧ Digs 18446744073709551616 L ∧ val 18446744073709551616 L = val 18446744073709551616 xs * 2 ^ n ∧ Below w.heap.size w w' := by
  subst e1; subst e2; exact movedUp_any a la ca n m xs w h hn hm hwm hlt

theorem stands_start {xs ys R : List Int} {la n s nq : Nat} (hx : Digs 18446744073709551616 xs) (hy : Digs 18446744073709551616 ys) (hxl : xs.length = la) (hyl : ys.length = n + 1) (hnq : nq + n = la) (ht : 0 < ys.getD n 0) (hR : R.length = la + 1) (hv : val 18446744073709551616 R = val 18446744073709551616 xs * 2 ^ s) :
    Stands (val 18446744073709551616 xs * 2 ^ s) (val 18446744073709551616 ys * 2 ^ s) nq (la + 1) nq (noughts nq) R := by
  have p1 := pow_pos' (B := 2) (by decide) s
  have pn := pow_pos' (B := 18446744073709551616) (by decide) n
  have e := val_take_succ 18446744073709551616 ys n (by omega)
  rw [List.take_of_length_le (by omega)] at e
  have t := val_nonneg (B := 18446744073709551616) (by decide) (hy.take n)
  have f1 : 18446744073709551616 ^ n * 1 ≤ 18446744073709551616 ^ n * ys.getD n 0 := Int.mul_le_mul_of_nonneg_left (by omega) (by omega)
  have f2 := val_lt (B := 18446744073709551616) (by decide) hx
  have f3 : val 18446744073709551616 xs * 2 ^ s < 18446744073709551616 ^ xs.length * 2 ^ s := Int.mul_lt_mul_of_pos_right f2 p1
  have f4 : 18446744073709551616 ^ n * 2 ^ s ≤ val 18446744073709551616 ys * 2 ^ s := Int.mul_le_mul_of_nonneg_right (by omega) (by omega)
  have f5 : 18446744073709551616 ^ nq * (18446744073709551616 ^ n * 2 ^ s) ≤ 18446744073709551616 ^ nq * (val 18446744073709551616 ys * 2 ^ s) := Int.mul_le_mul_of_nonneg_left f4 (Int.le_of_lt (pow_pos' (by decide) _))
  rw [← Int.mul_assoc, ← Int.pow_add, hnq] at f5
  rw [hxl] at f3
  have hz : ∀ j, (noughts nq).getD j 0 = 0 := fun j => by simp only [noughts, List.getD, List.getElem?_replicate]; split <;> rfl
  refine ⟨?_, ?_, fun j _ => hz j⟩
  · rw [vs_zero _ (fun i _ => hz i), vs_all _ R (by omega), hv]; omega
  · rw [vs_all _ R (by omega), hv]; omega

theorem up_room {xs : List Int} {la s : Nat} (hx : Digs 18446744073709551616 xs) (hxl : xs.length = la) (hs : s ≤ 63) : val 18446744073709551616 xs * 2 ^ s < 18446744073709551616 ^ (la + 1) := by
  have p1 := pow_pos' (B := 2) (by decide) s
  have p2 := pow_pos' (B := 2) (by decide) (64 - s)
  have f2 := val_lt (B := 18446744073709551616) (by decide) hx
  have f3 : val 18446744073709551616 xs * 2 ^ s < 18446744073709551616 ^ xs.length * 2 ^ s := Int.mul_lt_mul_of_pos_right f2 p1
  have hpr := pr_eq (p := s) (by omega)
  have f4 : (2 : Int) ^ s * 1 ≤ 2 ^ s * 2 ^ (64 - s) := Int.mul_le_mul_of_nonneg_left (by omega) (by omega)
  have f5 : (18446744073709551616 : Int) ^ la * 2 ^ s ≤ 18446744073709551616 ^ la * 18446744073709551616 := Int.mul_le_mul_of_nonneg_left (by omega) (Int.le_of_lt (pow_pos' (by decide) _))
  rw [Int.pow_succ]
  rw [hxl] at f3
  omega

set_option maxHeartbeats 1600000 in
theorem longDivision_any (a b : Option Addr) (la ca n cb : Nat) (xs ys : List Int) (w : World) (h : Nums w a la ca xs) (h' : Nums w b (n + 1) cb ys) (hn : n + 1 ≤ la) (hla : la ≤ 64) (ht : 0 < ys.getD n 0) :
    Calls Try.prog 83 #[.slice a la ca, .slice b (n + 1) cb] w fun e w' => ∃ a1 k1 c1 qs a2 k2 c2 rs, e = .returned (.tuple #[.slice a1 k1 c1, .slice a2 k2 c2]) ∧ Nums w' a1 k1 c1 qs ∧ Nums w' a2 k2 c2 rs ∧
      (Top qs ∧ Top rs ∧ val 18446744073709551616 xs = val 18446744073709551616 qs * val 18446744073709551616 ys + val 18446744073709551616 rs ∧ val 18446744073709551616 rs < val 18446744073709551616 ys) ∧
      Fresh w w' a1 k1 ∧ Fresh w w' a2 k2 ∧ (0 < k1 → 0 < k2 → ∀ x y, a1 = some x → a2 = some y → x.block ≠ y.block) ∧ Below w.heap.size w w' := by
  have hd := h.digs
  have hd' := h'.digs
  have hxl := h.hlen
  have hyl := h'.hlen
  obtain ⟨b1, o1, rfl, hc⟩ := h'.cells (by omega)
  obtain ⟨y, hy⟩ : ∃ y, y = ys.getD n 0 := ⟨_, rfl⟩
  have c1 : w.cell? ⟨b1, o1 + n, none⟩ = some (.int .u64 y) := by rw [hy]; exact hc n (by omega)
  have by' : 0 ≤ y ∧ y < 18446744073709551616 := by rw [hy]; exact hd'.getD (by decide) _
  obtain ⟨s, hs, hs63, _, hn2⟩ := norm_of (show 0 < y by omega) by'.2
  have HS : Hid (64 - bl y = (s : Int)) := hs
  have HU : Hid (val 18446744073709551616 ys * 2 ^ s < 18446744073709551616 ^ (n + 1)) := top_room hd' hyl (by omega) (by rw [← hy]; exact hn2)
  have HV : Hid (val 18446744073709551616 xs * 2 ^ s < 18446744073709551616 ^ (la + 1)) := up_room hd hxl hs63
  obtain ⟨nq, hnq⟩ : ∃ nq, nq + n = la := ⟨la - n, by omega⟩
  have HST : Hid (∀ R, R.length = la + 1 → val 18446744073709551616 R = val 18446744073709551616 xs * 2 ^ s → Stands (val 18446744073709551616 xs * 2 ^ s) (val 18446744073709551616 ys * 2 ^ s) nq (la + 1) nq (noughts nq) R) := fun R h1 h2 => stands_start hd hd' hxl hyl hnq ht h1 h2
  have HP : Hid (0 < val 18446744073709551616 ys) := by
    have e := val_take_succ 18446744073709551616 ys n (by omega)
    rw [List.take_of_length_le (by omega)] at e
    have t := val_nonneg (B := 18446744073709551616) (by decide) (hd'.take n)
    have pn := pow_pos' (B := 18446744073709551616) (by decide) n
    have : 0 < 18446744073709551616 ^ n * ys.getD n 0 := Int.mul_pos pn ht
    exact (show 0 < val 18446744073709551616 ys by omega)
  clear hs hn2 hy hc hxl hyl ht
  go_enter Try.func83, Try.ntmps83
  go_wp2_with fail
  refine (lz64_any _ by' _).mono ?_
  rintro e w0 ⟨rfl, hw0⟩
  subst hw0
  rw [HS.out]
  clear c1
  go_wp2_with fail
  refine (movedUp_z _ _ _ s (n + 1) _ _ ys _ h' (by omega) (by omega) (by omega) HU.out rfl (by omega)).mono ?_
  rintro e w1 ⟨D, rfl, hDl, hbD, hDd, hDv, hB1⟩
  have hx1 := h.below hB1
  have HD : Hid (D.length = n + 1 ∧ Digs 18446744073709551616 D ∧ val 18446744073709551616 D = val 18446744073709551616 ys * 2 ^ s) := ⟨hDl, hDd, hDv⟩
  clear hDl hDd hDv
  go_wp2_with fail
  refine (movedUp_z _ _ _ s (la + 1) _ _ xs _ hx1 (by omega) (by omega) (by omega) HV.out rfl (by omega)).mono ?_
  rintro e w2 ⟨R0, rfl, hRl, hbR, hRd, hRv, hB2⟩
  have HR0 : Hid (R0.length = la + 1 ∧ Digs 18446744073709551616 R0 ∧ val 18446744073709551616 R0 = val 18446744073709551616 xs * 2 ^ s) := ⟨hRl, hRd, hRv⟩
  clear hRl hRd hRv
  go_wp2_with (at_make; refine wpList_mk _ rfl _ _ 23 rfl Try.underlying23 .i64 .i64 _ _ nq rfl rfl (by omega) (by omega) (by omega) ?_)
  intro w3 hbQ hB3 hsz
  have g1 : w0.heap.size < w1.heap.size := hbD.lt
  have g2 : w1.heap.size < w2.heap.size := hbR.lt
  have hDn : Nums w1 (some ⟨w0.heap.size, 0, none⟩) (n + 1) (n + 1) D := hbD.nums HD.out.2.1 HD.out.1 (by omega)
  have hbR3 := hbR.below hB3 g2
  have hB13 : Below w1.heap.size w1 w3 := hB2.trans (hB3.mono hB2.size)
  have HN : Hid ((noughts nq).length = nq ∧ Digs 18446744073709551616 (noughts nq)) := ⟨length_noughts _, fun x hx => by rw [(List.mem_replicate.1 hx).2]; omega⟩
  clear hB2 hB3 hbR hx1 hsz
  go_wp2
  go_loopw [39] (fun iv wr => ∃ i : Nat, i ≤ nq ∧ iv = .int .i64 i ∧ ∃ Q R, Blk wr w2.heap.size Q ∧ Blk wr w1.heap.size R ∧ Q.length = nq ∧ R.length = la + 1 ∧ Digs 18446744073709551616 Q ∧ Digs 18446744073709551616 R ∧
      Stands (val 18446744073709551616 xs * 2 ^ s) (val 18446744073709551616 ys * 2 ^ s) nq (la + 1) (nq - i) Q R ∧ Below w1.heap.size w1 wr) (fun iv _ => nq - (intOf iv).toNat)
  case atStart => exact ⟨0, Nat.zero_le _, rfl, _, _, hbQ, hbR3, HN.out.1, HR0.out.1, HN.out.2, HR0.out.2.1, HST.out _ HR0.out.1 HR0.out.2.2, hB13⟩
  case round =>
    obtain ⟨i, hi, rfl, Q, R, hbQ', hbR', hQl, hRl, hQd, hRd, hst, hb⟩ := hrel
    have HM : Hid (Q.length = nq ∧ R.length = la + 1 ∧ Digs 18446744073709551616 Q ∧ Digs 18446744073709551616 R ∧ Stands (val 18446744073709551616 xs * 2 ^ s) (val 18446744073709551616 ys * 2 ^ s) nq (la + 1) (nq - i) Q R) := ⟨hQl, hRl, hQd, hRd, hst⟩
    clear hQl hRl hQd hRd hst hbQ hbR3
    by_cases hlt : i < nq
    · obtain ⟨k, hk⟩ : ∃ k, k + 1 = nq - i := ⟨nq - i - 1, by omega⟩
      have hki : (nq : Int) - 1 - (i : Int) = (k : Int) := by omega
      have hkq : (k : Int) < (nq : Int) := by omega
      have hlti : (i : Int) < (nq : Int) := by omega
      have HA : Hid (∀ wx m c, m = n + 2 → Blk wx w1.heap.size R → Blk wx w2.heap.size Q → Below w1.heap.size w1 wx → Calls Try.prog 104 #[.slice (some ⟨w1.heap.size, k, none⟩) m c, .slice (some ⟨w0.heap.size, 0, none⟩) (n + 1) (n + 1)] wx fun e w' => ∃ M q, e = .returned (.int .u64 q) ∧ (0 ≤ q ∧ q < 18446744073709551616) ∧
          Blk w' w1.heap.size M ∧ Blk w' w2.heap.size Q ∧ M.length = la + 1 ∧ Digs 18446744073709551616 M ∧ Stands (val 18446744073709551616 xs * 2 ^ s) (val 18446744073709551616 ys * 2 ^ s) nq (la + 1) k (Q.set k q) M ∧ Below w1.heap.size w1 w' ∧
          w'.frozen? ⟨w2.heap.size, k, none⟩ = false ∧ ∃ v, w'.cell? ⟨w2.heap.size, k, none⟩ = some v) := by
        intro wx m c hm hbx hqx hbw
        subst hm
        have hst := HM.out.2.2.2.2
        rw [← hk] at hst
        have hRl := HM.out.2.1
        refine (takeOut_any w1.heap.size k n c R (some ⟨w0.heap.size, 0, none⟩) (n + 1) D wx hbx HM.out.2.2.2.1 (by omega) (by omega) (hDn.below hbw) (fun x hx => by cases hx; exact Nat.ne_of_lt g1) ?_ ?_).mono ?_
        · rw [HD.out.2.2]; exact Int.mul_pos HP.out (pow_pos' (by decide) _)
        · rw [HD.out.2.2]; exact stands_win hst HM.out.2.2.2.1 (by omega)
        · rintro e w' ⟨M, q, rfl, hbM, hMd, hMl, hMs, hq, hv, hvl, hg⟩
          have hq4 : Blk w' w2.heap.size Q := hqx.grown hg (by simp; omega)
          rw [HD.out.2.2] at hv hvl
          refine ⟨M, q, rfl, hq, hbM, hq4, hMl.trans hRl, hMd, stands_next hst HM.out.2.2.2.1 hMd (by omega) (by omega) HM.out.1 (Int.le_of_lt HU.out) hMs hv hvl, hbw.trans (below_of_grown hg (Nat.le_refl _) hbw.size), hq4.frozen _, _, hq4.cell (by have := HM.out.1; omega)⟩
      go_wp2_with fail
      refine (HA.out _ _ _ (by omega) hbR' hbQ' hb).mono ?_
      rintro e w5 ⟨M, q, rfl, hq, hbM, hq4, hMl, hMd, hst, hb5, hfz, v0, hcv⟩
      have HB : Hid (Blk (w5.setCell ⟨w2.heap.size, k, none⟩ (.int .u64 q)) w2.heap.size (Q.set k q)) := hq4.set k q
      have HC : Hid (Blk (w5.setCell ⟨w2.heap.size, k, none⟩ (.int .u64 q)) w1.heap.size M) := hbM.grown (grown_set w5 w2.heap.size k (.int .u64 q)) (by simp; omega)
      have HG : Hid (Below w1.heap.size w1 (w5.setCell ⟨w2.heap.size, k, none⟩ (.int .u64 q))) := hb5.setCell (Nat.le_of_lt g2) _
      have HQ : Hid (M.length = la + 1 ∧ Digs 18446744073709551616 M ∧ (Q.set k q).length = nq ∧ Digs 18446744073709551616 (Q.set k q) ∧ Stands (val 18446744073709551616 xs * 2 ^ s) (val 18446744073709551616 ys * 2 ^ s) nq (la + 1) (nq - (i + 1)) (Q.set k q) M) :=
        ⟨hMl, hMd, by simpa using HM.out.1, HM.out.2.2.1.set _ hq, by rw [show nq - (i + 1) = k by omega]; exact hst⟩
      clear hbM hq4 hMl hMd hst hb5 hb hbR' hbQ'
      go_wp2
      go_roundw
      case rel => exact ⟨i + 1, by omega, by go_num, _, M, HB.out, HC.out, HQ.out.2.2.1, HQ.out.1, HQ.out.2.2.2.1, HQ.out.2.1, HQ.out.2.2.2.2, HG.out⟩
      case measure => simp [intOf]; omega
    · obtain rfl : i = nq := by omega
      have hst := HM.out.2.2.2.2
      rw [Nat.sub_self] at hst
      have hup := hst.up
      have heq := hst.eq
      rw [vs_all _ R (by have := HM.out.2.1; omega)] at hup heq
      rw [vs_all _ Q (by have := HM.out.1; omega)] at heq
      rw [Int.pow_zero, Int.one_mul] at hup
      have HE : Hid (∀ ls rem, val 18446744073709551616 R = ls * 2 ^ s + rem → 0 ≤ rem → rem < 2 ^ s → val 18446744073709551616 xs = val 18446744073709551616 Q * val 18446744073709551616 ys + ls ∧ ls < val 18446744073709551616 ys) := fun ls rem e1 e2 e3 => ld_end rfl rfl heq hup e1 e2 e3
      clear hst hup heq
      have hnQ := hbQ'.nums HM.out.2.2.1 HM.out.1 (by omega)
      have hnR := hbR'.nums HM.out.2.2.2.1 HM.out.2.1 (by omega)
      go_wp2_with fail
      refine (trimmed_any _ _ _ _ _ hnQ).mono ?_
      rintro e w4 ⟨a1, k1, c1, rfl, htr, hk, hw4⟩
      subst hw4
      go_wp2_with fail
      refine (movedDown_any _ _ _ s R _ hnR (by omega) (by omega)).mono ?_
      rintro e w5 ⟨a2, k2, c2, rs, rem, rfl, hn2, _, htop, _, hrem, hfr2, hb5⟩
      have hE := HE.out _ _ hrem.1 hrem.2.1 hrem.2.2
      have hkl : k1 ≤ i := by have := htr.le; have := hnQ.hlen; omega
      have hlt4 := hbQ'.lt
      have hbQ5 := hbQ'.below hb5 hlt4
      have hn1 : Nums w5 a1 k1 c1 (Q.take k1) := by
        rcases hk with ⟨rfl, rfl, rfl⟩ | ⟨_, rfl, rfl⟩
        · simpa using Nums.nil w5
        · exact (hnQ.below hb5).take hkl
      have hfr1 : Fresh w0 w5 a1 k1 := fun hp => by
        rcases hk with ⟨rfl, _, _⟩ | ⟨_, rfl, _⟩
        · exact absurd hp (Nat.lt_irrefl _)
        · exact ⟨_, Q, rfl, by omega, hbQ5, by have := HM.out.1; omega⟩
      have hfr2' : Fresh w0 w5 a2 k2 := fun hp => by
        obtain ⟨g, L, e1, e2, e3, e4⟩ := hfr2 hp
        exact ⟨g, L, e1, by have := hb.size; omega, e3, e4⟩
      have hsep : 0 < k1 → 0 < k2 → ∀ x y, a1 = some x → a2 = some y → x.block ≠ y.block := fun p1 p2 x y e1 e2 => by
        obtain ⟨g, L, e3, e4, _, _⟩ := hfr2 p2
        rcases hk with ⟨rfl, _, _⟩ | ⟨_, rfl, _⟩
        · exact absurd p1 (Nat.lt_irrefl _)
        · cases e1
          rw [e3] at e2
          cases e2
          exact Nat.ne_of_lt (Nat.lt_of_lt_of_le hlt4 e4)
      have HZ : Hid (Top (Q.take k1) ∧ Top rs ∧ val 18446744073709551616 xs = val 18446744073709551616 (Q.take k1) * val 18446744073709551616 ys + val 18446744073709551616 rs ∧ val 18446744073709551616 rs < val 18446744073709551616 ys) :=
        ⟨htr.Top, htop, by rw [htr.val]; exact hE.1, hE.2⟩
      have HBB : Hid (Below w0.heap.size w0 w5) := hB1.trans ((hb.trans (hb5.mono hb.size)).mono hB1.size)
      clear hE hrem htr htop hk hnQ hnR hb hb5 hbQ5
      go_wp2
      go_ret2
      exact ⟨_, _, _, _, _, _, _, _, rfl, hn1, hn2, HZ.out, hfr1, hfr2', hsep, HBB.out⟩
end Go.Proofs.Ytaipkganijofjab

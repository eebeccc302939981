/-
  Contracts of the document's own moves of bits: by a power of 2, times or divided.
-/
import Derived.Test.YtambpcgdaogojaaRefDivA
import Derived.Test.YtambpcgdaogojaaShift
namespace Go.Proofs.Ytambpcgdaogojaa
open Go.RowKit

theorem power_val (whole : Nat) (y : Int) : val 65536 ((noughts (whole + 1)).set whole y) = 65536 ^ whole * y := by
  have hz : ∀ j, (noughts (whole + 1)).getD j 0 = 0 := fun j => by simp only [noughts, List.getD, List.getElem?_replicate]; split <;> rfl
  have e := vs_set (B := 65536) (M := noughts (whole + 1)) (j := whole) (n := whole + 1) (v := y) (by omega) (by rw [length_noughts]; omega)
  rw [vs_all _ _ (by rw [List.length_set, length_noughts]; omega), vs_zero _ (fun i _ => hz i), hz, Int.sub_zero, Int.zero_add] at e
  exact e

theorem pow16 (whole part : Nat) : (2 : Int) ^ (16 * whole + part) = 65536 ^ whole * 2 ^ part := by rw [Int.pow_add, Int.pow_mul]; congr 1

set_option maxHeartbeats 800000 in
theorem power_any (k : Nat) (hk : k ≤ 5000) (w : World) :
    Calls Try.prog 87 #[.int .i64 (k : Int)] w fun e w' => ∃ a n c ds, e = .returned (.slice a n c) ∧ Nums w' a n c ds ∧ Digs 65536 ds ∧ Top ds ∧ n ≤ 500 ∧ val 65536 ds = 2 ^ k ∧ Below w.heap.size w w' := by
  obtain ⟨whole, hwh⟩ : ∃ whole, whole = k / 16 := ⟨_, rfl⟩
  obtain ⟨part, hpa⟩ : ∃ part, part = k % 16 := ⟨_, rfl⟩
  have hw1 : (k : Int) / 16 = (whole : Int) := by omega
  have hw2 : (k : Int) % 16 = (part : Int) := by omega
  have hp15 : part ≤ 15 := by omega
  have hwb : whole ≤ 400 := by omega
  have HK : Hid (k = 16 * whole + part) := (show k = 16 * whole + part by omega)
  clear hwh hpa
  go_enter Try.func87, Try.ntmps87
  go_wp2_with (at_make; refine wpList_mk _ rfl _ _ 93 rfl Try.underlying93 .i64 .i64 _ _ (whole + 1) rfl rfl (by omega) (by omega) (by omega) ?_)
  intro w1 hb1 hbel hsz
  have hl : (noughts (whole + 1)).length = whole + 1 := length_noughts _
  have hcv : ∃ v, w1.cell? ⟨w.heap.size, whole, none⟩ = some v := ⟨_, hb1.cell (by omega)⟩
  obtain ⟨v0, hcv⟩ := hcv
  have hfz : w1.frozen? ⟨w.heap.size, whole, none⟩ = false := hb1.frozen _
  have hwi : (whole : Int) < (whole : Int) + 1 := by omega
  have HB : Hid (Blk (w1.setCell ⟨w.heap.size, whole, none⟩ (.int .u64 1)) w.heap.size ((noughts (whole + 1)).set whole 1)) := hb1.set whole 1
  have HG : Hid (Below w.heap.size w (w1.setCell ⟨w.heap.size, whole, none⟩ (.int .u64 1))) := hbel.setCell (Nat.le_refl _) _
  have HL : Hid ((noughts (whole + 1)).length = whole + 1) := hl
  clear hb1 hbel hl
  go_wp2
  go_loopw [4] (fun iv wr => ∃ i : Nat, i ≤ part ∧ iv = .int .i64 i ∧ ∃ y : Int, y = 2 ^ i ∧ Blk wr w.heap.size ((noughts (whole + 1)).set whole y) ∧ Below w.heap.size w wr) (fun iv _ => part - (intOf iv).toNat)
  case atStart => exact ⟨0, Nat.zero_le _, rfl, 1, rfl, HB.out, HG.out⟩
  case round =>
    obtain ⟨i, hi, rfl, y, hy, hbr, hb⟩ := hrel
    have hp := pow_pos' (B := 2) (by decide) i
    have hpm := pow_mono (B := 2) (by decide) (show i ≤ 15 by omega)
    have hy15 : 0 < y ∧ y ≤ 32768 := by rw [hy]; exact ⟨hp, by simpa using hpm⟩
    have HY : Hid (y = 2 ^ i) := hy
    clear hy hp hpm hcv hfz
    by_cases hlt : i < part
    · have hlti : (i : Int) < (part : Int) := by omega
      have hc1 : wr.cell? ⟨w.heap.size, whole, none⟩ = some (.int .u64 y) := by
        have := hbr.cell (j := whole) (by rw [List.length_set, HL.out]; omega)
        rw [getD_set_self (by rw [HL.out]; omega)] at this
        exact this
      have hf1 : wr.frozen? ⟨w.heap.size, whole, none⟩ = false := hbr.frozen _
      have hset := hbr.set whole (y * 2)
      rw [List.set_set] at hset
      have HB2 : Hid (Blk (wr.setCell ⟨w.heap.size, whole, none⟩ (.int .u64 (y * 2))) w.heap.size ((noughts (whole + 1)).set whole (y * 2))) := hset
      have HG2 : Hid (Below w.heap.size w (wr.setCell ⟨w.heap.size, whole, none⟩ (.int .u64 (y * 2)))) := hb.setCell (Nat.le_refl _) _
      clear hset hbr hb HB HG
      go_wp2
      go_roundw
      case rel => exact ⟨i + 1, by omega, by go_num, y * 2, by rw [HY.out, Int.pow_succ], HB2.out, HG2.out⟩
      case measure => simp [intOf]; omega
    · obtain rfl : i = part := by omega
      have hd : Digs 65536 ((noughts (whole + 1)).set whole y) := Digs.set (fun x hx => by rw [(List.mem_replicate.1 hx).2]; omega) _ (by omega)
      have hnum := hbr.nums (n := whole + 1) (fun x hx => by have := hd x hx; omega) (by rw [List.length_set, HL.out]) (by omega)
      have ht : Top ((noughts (whole + 1)).set whole y) := by
        right
        rw [List.length_set, HL.out, Nat.add_sub_cancel, getD_set_self (by rw [HL.out]; omega)]
        omega
      have HZ : Hid (Digs 65536 ((noughts (whole + 1)).set whole y) ∧ Top ((noughts (whole + 1)).set whole y) ∧ val 65536 ((noughts (whole + 1)).set whole y) = 2 ^ k) := ⟨hd, ht, by rw [power_val, HK.out, pow16, HY.out]⟩
      clear hd ht
      go_wp2
      go_ret
      exact ⟨_, _, _, _, rfl, hnum, HZ.out.1, HZ.out.2.1, by omega, HZ.out.2.2, hb⟩
end Go.Proofs.Ytambpcgdaogojaa

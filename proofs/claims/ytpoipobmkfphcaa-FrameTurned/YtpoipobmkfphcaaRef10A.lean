/-
  Contracts of the document's Sum (frame).
-/
import Derived.Test.YtpoipobmkfphcaaF10Ans
namespace Go.Proofs.Ytpoipobmkfphcaa
open Go.RowKit

theorem bits_step {q : Nat} (hq : q < 4294967296) (ho : q % 2 = 1) : bits .xor .u32 ((q : Int) / 2) 3988292384 = ((stepC q : Nat) : Int) := by
  have h := bits_xor32 (q / 2) 3988292384 (by omega) (by decide)
  rw [show ((q : Int) / 2) = ((q / 2 : Nat) : Int) by omega]
  unfold stepC
  rw [if_pos ho]
  exact h
theorem step_even {q : Nat} (ho : ¬ q % 2 = 1) : (q : Int) / 2 = ((stepC q : Nat) : Int) := by
  unfold stepC
  rw [if_neg ho]
  omega
theorem bits_byte {r : Nat} {b : Int} (hr : r < 4294967296) (hb : 0 ≤ b ∧ b < 256) : bits .xor .u32 (r : Int) b = ((r ^^^ b.toNat : Nat) : Int) := by
  have h := bits_xor32 r b.toNat hr (by omega)
  rw [show ((b.toNat : Nat) : Int) = b by omega] at h
  exact h
theorem bits_all {r : Nat} (hr : r < 4294967296) : bits .xor .u32 (r : Int) 4294967295 = ((r ^^^ 4294967295 : Nat) : Int) := bits_xor32 r 4294967295 hr (by decide)
theorem steps_on {q k : Nat} (hk : k < 8) : stepsC (8 - k) q = stepsC (8 - (k + 1)) (stepC q) := by
  rw [show 8 - k = (8 - (k + 1)) + 1 by omega]
  rfl
theorem drop_cons {bs : List Int} {i : Nat} (h : i < bs.length) : bs.drop i = bs.getD i 0 :: bs.drop (i + 1) := by
  rw [List.drop_eq_getElem_cons h]
  simp [List.getD, h]

set_option maxRecDepth 20000 in
set_option maxHeartbeats 1600000 in
theorem r10sum_any (a : Option Addr) (la ca : Nat) (bs : List Int) (w : World) (h : Byts w a la ca bs) :
    Calls Try.prog 10 #[.slice a la ca] w fun e w' => e = .returned (.int .u32 (sumC bs : Int)) ∧ w' = w := by
  have hl := h.hlen
  have hc := h.hcap
  have hm := h.hmax
  unfold maxLen at hm
  obtain ⟨R, hR⟩ : ∃ R, R = runC 4294967295 bs := ⟨_, rfl⟩
  have HR : Hid (R = runC 4294967295 bs) := hR
  have H : Hid (Byts w a la ca bs) := h
  have HS : Hid (sumC bs = R ^^^ 4294967295) := by show _ = _; rw [HR.out]; rfl
  have HL : Hid (bs.length = la) := hl
  obtain ⟨s, hs⟩ : ∃ s, s = sumC bs := ⟨_, rfl⟩
  rw [← hs] at HS ⊢
  clear hR h hl hs
  go_enter Try.func10, Try.ntmps10
  go_wp2
  go_loopw [3, 4] (fun v3 v4 wr => ∃ r i : Nat, v3 = .int .u32 r ∧ v4 = .int .i64 i ∧ i ≤ la ∧ Hid (r < 4294967296 ∧ runC r (bs.drop i) = R) ∧ w = wr) (fun _ v4 _ => la - (intOf v4).toNat)
  case atStart => exact ⟨4294967295, 0, rfl, rfl, Nat.zero_le _, ⟨by decide, by rw [HR.out]; rfl⟩, rfl⟩
  case round =>
    obtain ⟨r, i, rfl, rfl, hi, HI, rfl⟩ := hrel
    by_cases hlt : i < la
    · have hlti : (i : Int) < (la : Int) := by omega
      obtain ⟨b, off, rfl, hcell⟩ := H.out.cells (by omega)
      have c0 := hcell i hlt
      have hbb := H.out.word (bs.getD i 0) (by
        have : i < bs.length := by rw [HL.out]; exact hlt
        simp [List.getD, this])
      obtain ⟨x, hx⟩ : ∃ x, x = bs.getD i 0 := ⟨_, rfl⟩
      rw [← hx] at c0 hbb
      have HB : Hid (bits .xor .u32 (r : Int) x = ((r ^^^ x.toNat : Nat) : Int) ∧ r ^^^ x.toNat < 4294967296 ∧ runC (byteC r x.toNat) (bs.drop (i + 1)) = R) := ⟨bits_byte HI.out.1 hbb, xor_lt32 HI.out.1 (by omega), by
        have e := HI.out.2
        rw [drop_cons (by rw [HL.out]; exact hlt), ← hx] at e
        exact e⟩
      clear hcell HI hx
      go_wp2
      go_loopw [3, 5] (fun v3 v5 wr => ∃ q k : Nat, v3 = .int .u32 q ∧ v5 = .int .i64 k ∧ k ≤ 8 ∧ Hid (q < 4294967296 ∧ stepsC (8 - k) q = byteC r x.toNat) ∧ w = wr) (fun _ v5 _ => 8 - (intOf v5).toNat)
      case atStart => exact ⟨r ^^^ x.toNat, 0, by rw [HB.out.1], rfl, Nat.zero_le _, ⟨HB.out.2.1, rfl⟩, rfl⟩
      case round =>
        obtain ⟨q, k, rfl, rfl, hk, HQ, rfl⟩ := hrel
        by_cases hk8 : k < 8
        · have hk8i : (k : Int) < 8 := by omega
          have HN : Hid (stepC q < 4294967296 ∧ stepsC (8 - (k + 1)) (stepC q) = byteC r x.toNat) := ⟨stepC_lt HQ.out.1, by rw [← steps_on hk8]; exact HQ.out.2⟩
          have hq := HQ.out.1
          by_cases ho : q % 2 = 1
          · have hoi : (q : Int) % 2 = 1 := by omega
            have HX : Hid (bits .xor .u32 ((q : Int) / 2) 3988292384 = ((stepC q : Nat) : Int)) := bits_step hq ho
            clear HQ ho
            go_wp2
            go_roundw
            case rel => exact ⟨stepC q, k + 1, by rw [HX.out], by go_num, by omega, HN, by first | rfl | trivial⟩
            case measure => simp [intOf]; omega
          · have hoi : ((q : Int) % 2 == 1) = false := by simp; omega
            have HX : Hid ((q : Int) / 2 = ((stepC q : Nat) : Int)) := step_even ho
            clear HQ ho
            go_wp2
            go_roundw
            case rel => exact ⟨stepC q, k + 1, by rw [HX.out], by go_num, by omega, HN, by first | rfl | trivial⟩
            case measure => simp [intOf]; omega
        · obtain rfl : k = 8 := by omega
          go_wp2
          go_roundw
          case rel => exact ⟨q, i + 1, rfl, by go_num, by omega, ⟨HQ.out.1, by
            have := HQ.out.2
            rw [show 8 - 8 = 0 by rfl] at this
            rw [show q = byteC r x.toNat from this]
            exact HB.out.2.2⟩, by first | rfl | trivial⟩
          case measure => simp [intOf]; omega
    · obtain rfl : i = la := by omega
      have HE : Hid (bits .xor .u32 (r : Int) 4294967295 = (s : Int)) := by
        show _ = _
        have hr := HI.out.2
        rw [List.drop_eq_nil_of_le (by rw [HL.out]; exact Nat.le_refl _)] at hr
        rw [bits_all HI.out.1, HS.out, show r = R from hr]
      clear HI
      go_wp2
      go_ret
      exact ⟨ret_int HE.out, rfl⟩
end Go.Proofs.Ytpoipobmkfphcaa

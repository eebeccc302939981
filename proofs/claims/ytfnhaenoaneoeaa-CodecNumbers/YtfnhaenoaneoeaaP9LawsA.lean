/-
  Stage 9's laws: the walks of CodecNumbers, CodecInts, CodecBytes. Written by mk/p9a.py.
-/
import Derived.Test.YtfnhaenoaneoeaaP9LawsO
import Derived.Deep.RegionHeld
namespace Go.Proofs.Ytfnhaenoaneoeaa
open Go.RowKit

set_option maxRecDepth 100000 in
set_option maxHeartbeats 6000000 in
theorem numbers_walk (HN : NumOk9) (n : Nat) (w : World) (hn : n < 18446744073709551616) : Calls Try.prog 3 #[.int .u64 n] w fun e w' => e = .returned (.bool true) ∧ Below w.heap.size w w' := by
  go_enter Try.func3, Try.ntmps3
  go_wp2_with fail
  refine (HN n _ hn).mono ?_
  rintro e v1 ⟨a1, l1, c1, xs, rfl, X1, hP, -, hB1⟩
  obtain ⟨S, hS⟩ : ∃ S, S = strOf xs := ⟨_, rfl⟩
  have X1' : Byts v1.drew a1 l1 c1 xs := X1.drew9
  have q1 := conv_any X1'
  rw [← hS] at q1
  have HRB : Hid (∀ wx, Below v1.heap.size v1 wx → Calls Try.prog 10 #[.int .u64 n] wx fun e w' => ∃ ta tn tc, e = .returned (.slice ta tn tc) ∧ Below w.heap.size w w' ∧
      (convert 23 9 (.slice a1 l1 c1)).run Try.prog w' = .ok (.string S) w' ∧ (convert 23 9 (.slice ta tn tc)).run Try.prog w' = .ok (.string S) w') := by
    intro wx hx
    refine (r9number_any n wx hn).mono ?_
    rintro e w' ⟨v, ys, rfl, ho, hc, hb'⟩
    have hd := hc.digs
    obtain ⟨ta, tn, tc, rfl, T⟩ := bown_nil ho hd
    obtain rfl : xs = ys := hP.bytes hc
    have hB' := hx.trans (hb'.mono hx.size)
    refine ⟨ta, tn, tc, rfl, hB1.trans (hB'.mono hB1.size), ?_, ?_⟩
    · rw [hS]; exact conv_any (X1.below hB')
    · rw [hS]; exact conv_any T
  clear hS hP X1'
  go_wp2_with fail
  go_region_held (fun w' => (convert 23 9 (.slice a1 l1 c1)).run Try.prog w' = .ok (.string S) w') (first | exact q1 | exact k1 | assumption) ((go_at_call 10; refine (HRB.out _ ?_).mono ?_; (exact ⟨rfl, rfl, rfl, Nat.le_refl _, fun _ _ => rfl⟩); rintro e w6 ⟨ta, tn, tc, rfl, hB6, k1, k2⟩))
  all_goals
    go_wp2
    go_ret
    exact ⟨by simp, ⟨hB6.os, hB6.tape, hB6.output, hB6.size, hB6.block⟩⟩

set_option maxRecDepth 100000 in
set_option maxHeartbeats 6000000 in
theorem ints_walk (HN : IntOk9) (x : Int) (w : World) (hz : -9223372036854775808 ≤ x ∧ x < 9223372036854775808) : Calls Try.prog 4 #[.int .i64 x] w fun e w' => e = .returned (.bool true) ∧ Below w.heap.size w w' := by
  go_enter Try.func4, Try.ntmps4
  go_wp2_with fail
  refine (HN x _ hz).mono ?_
  rintro e v1 ⟨a1, l1, c1, xs, rfl, X1, hP, -, hB1⟩
  obtain ⟨S, hS⟩ : ∃ S, S = strOf xs := ⟨_, rfl⟩
  have X1' : Byts v1.drew a1 l1 c1 xs := X1.drew9
  have q1 := conv_any X1'
  rw [← hS] at q1
  have HRB : Hid (∀ wx, Below v1.heap.size v1 wx → Calls Try.prog 12 #[.int .i64 x] wx fun e w' => ∃ ta tn tc, e = .returned (.slice ta tn tc) ∧ Below w.heap.size w w' ∧
      (convert 23 9 (.slice a1 l1 c1)).run Try.prog w' = .ok (.string S) w' ∧ (convert 23 9 (.slice ta tn tc)).run Try.prog w' = .ok (.string S) w') := by
    intro wx hx
    refine (r9int_any x wx hz).mono ?_
    rintro e w' ⟨v, ys, rfl, ho, hc, hb'⟩
    have hd := hc.digs
    obtain ⟨ta, tn, tc, rfl, T⟩ := bown_nil ho hd
    obtain rfl : xs = ys := hP.bytes hc
    have hB' := hx.trans (hb'.mono hx.size)
    refine ⟨ta, tn, tc, rfl, hB1.trans (hB'.mono hB1.size), ?_, ?_⟩
    · rw [hS]; exact conv_any (X1.below hB')
    · rw [hS]; exact conv_any T
  clear hS hP X1'
  go_wp2_with fail
  go_region_held (fun w' => (convert 23 9 (.slice a1 l1 c1)).run Try.prog w' = .ok (.string S) w') (first | exact q1 | exact k1 | assumption) ((go_at_call 12; refine (HRB.out _ ?_).mono ?_; (exact ⟨rfl, rfl, rfl, Nat.le_refl _, fun _ _ => rfl⟩); rintro e w6 ⟨ta, tn, tc, rfl, hB6, k1, k2⟩))
  all_goals
    go_wp2
    go_ret
    exact ⟨by simp, ⟨hB6.os, hB6.tape, hB6.output, hB6.size, hB6.block⟩⟩

set_option maxRecDepth 100000 in
set_option maxHeartbeats 6000000 in
theorem bytes9_walk (HN : BytOk9) (a : Option Addr) (la ca : Nat) (bs : List Int) (w : World) (H : Byts w a la ca bs) (hnil : a = none → ca = 0) (hlen : la ≤ 140737488355300) : Calls Try.prog 5 #[.slice a la ca] w fun e w' => e = .returned (.bool true) ∧ Below w.heap.size w w' := by
  go_enter Try.func5, Try.ntmps5
  go_wp2_with fail
  refine (HN a la ca bs _ H hnil hlen).mono ?_
  rintro e v1 ⟨a1, l1, c1, xs, rfl, X1, hP, -, hB1⟩
  obtain ⟨S, hS⟩ : ∃ S, S = strOf xs := ⟨_, rfl⟩
  have X1' : Byts v1.drew a1 l1 c1 xs := X1.drew9
  have q1 := conv_any X1'
  rw [← hS] at q1
  have HRB : Hid (∀ wx, Below v1.heap.size v1 wx → Calls Try.prog 14 #[.slice a la ca] wx fun e w' => ∃ ta tn tc, e = .returned (.slice ta tn tc) ∧ Below w.heap.size w w' ∧
      (convert 23 9 (.slice a1 l1 c1)).run Try.prog w' = .ok (.string S) w' ∧ (convert 23 9 (.slice ta tn tc)).run Try.prog w' = .ok (.string S) w') := by
    intro wx hx
    refine (r9bytes_any a la ca bs wx ((H.below hB1).below hx) hnil hlen).mono ?_
    rintro e w' ⟨v, cs, rfl, ho, hc, hb'⟩
    have hd := hc.digs.app9 H.digs
    obtain ⟨ys, hys⟩ : ∃ ys, ys = cs ++ bs := ⟨_, rfl⟩
    rw [← hys] at ho hd
    obtain ⟨ta, tn, tc, rfl, T⟩ := bown_nil ho hd
    obtain rfl : xs = ys := IsByt.unique hP ⟨cs, hc, hys⟩
    have hB' := hx.trans (hb'.mono hx.size)
    refine ⟨ta, tn, tc, rfl, hB1.trans (hB'.mono hB1.size), ?_, ?_⟩
    · rw [hS]; exact conv_any (X1.below hB')
    · rw [hS]; exact conv_any T
  clear hS hP X1'
  go_wp2_with fail
  go_region_held (fun w' => (convert 23 9 (.slice a1 l1 c1)).run Try.prog w' = .ok (.string S) w') (first | exact q1 | exact k1 | assumption) ((go_at_call 14; refine (HRB.out _ ?_).mono ?_; (exact ⟨rfl, rfl, rfl, Nat.le_refl _, fun _ _ => rfl⟩); rintro e w6 ⟨ta, tn, tc, rfl, hB6, k1, k2⟩))
  all_goals
    go_wp2
    go_ret
    exact ⟨by simp, ⟨hB6.os, hB6.tape, hB6.output, hB6.size, hB6.block⟩⟩
end Go.Proofs.Ytfnhaenoaneoeaa

/-
  The walks of stage 7's laws on codes, packs, what is unpacked and room.
-/
import Derived.Test.YtambpcgdaogojaaP7LawsO
import Derived.Test.YtambpcgdaogojaaRef7A
import Derived.Test.YtambpcgdaogojaaRef7P
import Derived.Test.YtambpcgdaogojaaRef7U
import Derived.Test.YtambpcgdaogojaaRef7R
import Derived.Test.YtambpcgdaogojaaNatA
namespace Go.Proofs.Ytambpcgdaogojaa
open Go.RowKit

set_option maxRecDepth 20000 in
set_option maxHeartbeats 3200000 in
theorem codes_walk (hE : CodOk) (hD : DcOk) (m : Bool) (a0 a1 a2 : Option Addr) (len0 cap0 len1 cap1 len2 cap2 : Nat) (z0 z1 z2 : List Int) (w : World) (H0 : Nums w a0 len0 cap0 z0) (H1 : Nums w a1 len1 cap1 z1) (H2 : Nums w a2 len2 cap2 z2) :
    Calls Try.prog 3 #[.slice a0 len0 cap0, .agg #[.bool m, .slice a1 len1 cap1], .slice a2 len2 cap2] w fun e w' => e = .returned (.bool true) ∧ Below w.heap.size w w' := by
  have hV := (Below.refl w.heap.size w).alloc (Nat.le_refl _) (.cells #[.bool m, .slice a1 len1 cap1] 25)
  have c0 : (w.alloc (.cells #[.bool m, .slice a1 len1 cap1] 25)).cell? ⟨w.heap.size, 0, none⟩ = some (.bool m) := by simp
  have c1 : (w.alloc (.cells #[.bool m, .slice a1 len1 cap1] 25)).cell? ⟨w.heap.size, 1, none⟩ = some (.slice a1 len1 cap1) := by simp
  replace H0 := H0.below hV
  replace H1 := H1.below hV
  replace H2 := H2.below hV
  obtain ⟨V, hVe⟩ : ∃ V, V = w.alloc (.cells #[.bool m, .slice a1 len1 cap1] 25) := ⟨_, rfl⟩
  have hz : V.heap.size = w.heap.size + 1 := by rw [hVe]; simp
  rw [← hVe] at hV c0 c1 H0 H1 H2
  have HVe : Hid (V = w.alloc (.cells #[.bool m, .slice a1 len1 cap1] 25)) := hVe
  have HF := (show Hid _ from qfew_three _ _ _ _ _ _ _ _ _ _ _ _ V H0 H1 H2)
  have HZ : Hid (V.heap.size = w.heap.size + 1) := hz
  clear H0 H1 H2 hVe hz
  go_enter Try.func3, Try.ntmps3
  go_wp2_with fail
  rw [← HVe.out, ← HZ.out]
  refine Calls.mono HF.out ?_
  rintro e w1 ⟨rfl, H0, H1, H2, hb1⟩
  have hB1 := hV.trans (hb1.mono hV.size)
  replace c0 := bkeep hb1 c0 rfl
  replace c1 := bkeep hb1 c1 rfl
  clear HF HVe HZ hb1 hV
  cases hm : manyB 20 [len0, len1, len2] with
  | false =>
    clear H0 H1 H2
    go_wp2
    go_ret
    exact ⟨rfl, hB1⟩
  | true =>
    go_wp2_with fail
    refine (awake7_any hE _).mono ?_
    rintro e w2 ⟨rfl, hb2⟩
    have hB2 := hB1.trans (hb2.mono hB1.size)
    replace H0 := H0.below hb2
    replace H1 := H1.below hb2
    replace H2 := H2.below hb2
    replace c0 := bkeep hb2 c0 rfl
    replace c1 := bkeep hb2 c1 rfl
    clear hB1 hb2
    go_wp2_with fail
    refine (hE m _ _ _ _ _ _ _ _ _ H0 H1).mono ?_
    rintro e w3 ⟨xa, xl, xc, xs, xe, rfl, hX, tX, hb3⟩
    have hB3 := hB2.trans (hb3.mono hB2.size)
    replace H0 := H0.below hb3
    replace H1 := H1.below hb3
    replace H2 := H2.below hb3
    replace c0 := bkeep hb3 c0 rfl
    replace c1 := bkeep hb3 c1 rfl
    clear hB2 hb3
    go_wp2_with fail
    refine (r7encode_any m _ _ _ _ _ _ _ _ _ H0 H1).mono ?_
    rintro e w4 ⟨ya, yl, yc, ys, ye, rfl, hY, tY, hb4⟩
    obtain ⟨rfl, rfl⟩ := tX.unique tY
    have hB4 := hB3.trans (hb4.mono hB3.size)
    replace H0 := H0.below hb4
    replace H2 := H2.below hb4
    have HS := (show Hid _ from same_any _ _ _ _ _ _ _ _ _ (hX.below hb4) hY)
    rw [sameB_self] at HS
    clear hB3 hb4 hX hY tX tY H1 c0 c1
    go_wp2_with fail
    refine Calls.mono HS.out ?_
    rintro e w5 ⟨rfl, hb5⟩
    have hB5 := hB4.trans (hb5.mono hB4.size)
    replace H0 := H0.below hb5
    replace H2 := H2.below hb5
    clear HS hB4 hb5 hE
    go_wp2_with fail
    refine (hD _ _ _ _ _ _ _ _ _ H0 H2).mono ?_
    rintro e w6 ⟨n, xa, xl, xc, xs, xf, rfl, hX, tX, hb6⟩
    have hA := (Below.refl w6.heap.size w6).alloc (Nat.le_refl _) (.cells #[.bool n, .slice xa xl xc] 25)
    have d0 : (w6.alloc (.cells #[.bool n, .slice xa xl xc] 25)).cell? ⟨w6.heap.size, 0, none⟩ = some (.bool n) := by simp
    have d1 : (w6.alloc (.cells #[.bool n, .slice xa xl xc] 25)).cell? ⟨w6.heap.size, 1, none⟩ = some (.slice xa xl xc) := by simp
    have hbA := hb6.trans (hA.mono hb6.size)
    have hB6 := hB5.trans (hbA.mono hB5.size)
    replace H0 := H0.below hbA
    replace H2 := H2.below hbA
    replace hX := hX.below hA
    clear hB5 hb6 hA hbA hD
    go_wp2_with fail
    generalize w6.alloc (.cells #[.bool n, .slice xa xl xc] 25) = A1 at *
    generalize w6.heap.size = G6 at *
    refine (r7decode_any _ _ _ _ _ _ _ _ _ H0 H2).mono ?_
    rintro e w7 ⟨n', ya, yl, yc, ys, yf, rfl, hY, tY, hb7⟩
    obtain ⟨rfl, rfl, rfl⟩ := tX.unique tY
    have hA := (Below.refl w7.heap.size w7).alloc (Nat.le_refl _) (.cells #[.bool n, .slice ya yl yc] 25)
    have hbA := hb7.trans (hA.mono hb7.size)
    have hB7 := hB6.trans (hbA.mono hB6.size)
    have e0 : (w7.alloc (.cells #[.bool n, .slice ya yl yc] 25)).cell? ⟨w7.heap.size, 0, none⟩ = some (.bool n) := by simp
    have e1 : (w7.alloc (.cells #[.bool n, .slice ya yl yc] 25)).cell? ⟨w7.heap.size, 1, none⟩ = some (.slice ya yl yc) := by simp
    replace d0 := bkeep hbA d0 rfl
    replace d1 := bkeep hbA d1 rfl
    have HS := (show Hid _ from isame_eq _ n _ _ _ _ _ _ _ _ (hX.below hbA) (hY.below hA) (Below.refl _ _))
    clear H0 H2 hb7 hB6 hA hbA hX hY tX tY
    go_wp2_with fail
    refine Calls.mono HS.out ?_
    rintro e w8 ⟨rfl, hb8⟩
    have hB8 := hB7.trans (hb8.mono hB7.size)
    clear HS d0 d1 e0 e1 hb8 hB7
    go_wp2
    go_ret
    exact ⟨by simp, hB8⟩

set_option maxRecDepth 20000 in
set_option maxHeartbeats 3200000 in
theorem unpacks_walk (hE : CodOk) (hU : UpOk) (s : Int) (a0 a1 : Option Addr) (len0 cap0 len1 cap1 : Nat) (z0 z1 : List Int) (w : World) (hs : -9223372036854775808 ≤ s ∧ s < 9223372036854775808) (H0 : Nums w a0 len0 cap0 z0) (H1 : Nums w a1 len1 cap1 z1) :
    Calls Try.prog 5 #[.slice a0 len0 cap0, .int .i64 s, .slice a1 len1 cap1] w fun e w' => e = .returned (.bool true) ∧ Below w.heap.size w w' := by
  have HF := (show Hid _ from qfew_two _ _ _ _ _ _ _ _ w H0 H1)
  clear H0 H1
  go_enter Try.func5, Try.ntmps5
  go_wp2_with fail
  refine Calls.mono HF.out ?_
  rintro e w1 ⟨rfl, H0, H1, hb1⟩
  clear HF
  cases hm : manyB 20 [len0, len1] with
  | false =>
    clear H0 H1
    go_wp2
    go_ret
    exact ⟨rfl, hb1⟩
  | true =>
    go_wp2_with fail
    refine (awake7_any hE _).mono ?_
    rintro e w2 ⟨rfl, hb2⟩
    have hB2 := hb1.trans (hb2.mono hb1.size)
    replace H0 := H0.below hb2
    replace H1 := H1.below hb2
    clear hb1 hb2 hE
    go_wp2_with fail
    refine (hU _ _ _ _ _ _ _ _ s _ H0 H1 hs).mono ?_
    rintro e w3 ⟨x, y, xe, rfl, tX, hb3⟩
    have hB3 := hB2.trans (hb3.mono hB2.size)
    replace H0 := H0.below hb3
    replace H1 := H1.below hb3
    clear hB2 hb3 hU
    go_wp2_with fail
    refine (r7unpack_any _ _ _ _ _ _ _ _ s _ H0 H1).mono ?_
    rintro e w4 ⟨x', y', xe', rfl, tY, hb4⟩
    obtain ⟨rfl, rfl, rfl⟩ := tX.unique tY
    have hB4 := hB3.trans (hb4.mono hB3.size)
    clear hB3 hb4 tX tY H0 H1
    go_wp2
    go_ret
    exact ⟨by simp, hB4⟩

set_option maxRecDepth 20000 in
set_option maxHeartbeats 3200000 in
theorem packs_walk (hE : CodOk) (hP : PkOk) (s g h : Int) (a0 : Option Addr) (len0 cap0 : Nat) (z0 : List Int) (w : World) (hs : -9223372036854775808 ≤ s ∧ s < 9223372036854775808) (hg : -9223372036854775808 ≤ g ∧ g < 9223372036854775808) (hh : -9223372036854775808 ≤ h ∧ h < 9223372036854775808) (H0 : Nums w a0 len0 cap0 z0) :
    Calls Try.prog 4 #[.slice a0 len0 cap0, .int .i64 s, .agg #[.int .i64 g, .int .i64 h]] w fun e w' => e = .returned (.bool true) ∧ Below w.heap.size w w' := by
  have hV := (Below.refl w.heap.size w).alloc (Nat.le_refl _) (.cells #[.int .i64 g, .int .i64 h] 36)
  have c0 : (w.alloc (.cells #[.int .i64 g, .int .i64 h] 36)).cell? ⟨w.heap.size, 0, none⟩ = some (.int .i64 g) := by simp
  have c1 : (w.alloc (.cells #[.int .i64 g, .int .i64 h] 36)).cell? ⟨w.heap.size, 1, none⟩ = some (.int .i64 h) := by simp
  replace H0 := H0.below hV
  obtain ⟨V, hVe⟩ : ∃ V, V = w.alloc (.cells #[.int .i64 g, .int .i64 h] 36) := ⟨_, rfl⟩
  have hz : V.heap.size = w.heap.size + 1 := by rw [hVe]; simp
  rw [← hVe] at hV c0 c1 H0
  have HVe : Hid (V = w.alloc (.cells #[.int .i64 g, .int .i64 h] 36)) := hVe
  have HF := (show Hid _ from qfew_one _ _ _ _ V H0)
  have HZ : Hid (V.heap.size = w.heap.size + 1) := hz
  clear H0 hVe hz
  go_enter Try.func4, Try.ntmps4
  go_wp2_with fail
  rw [← HVe.out, ← HZ.out]
  refine Calls.mono HF.out ?_
  rintro e w1 ⟨rfl, H0, hb1⟩
  have hB1 := hV.trans (hb1.mono hV.size)
  replace c0 := bkeep hb1 c0 rfl
  replace c1 := bkeep hb1 c1 rfl
  clear HF HVe HZ hb1 hV
  cases hm : manyB 20 [len0] with
  | false =>
    clear H0
    go_wp2
    go_ret
    exact ⟨rfl, hB1⟩
  | true =>
    go_wp2_with fail
    refine (awake7_any hE _).mono ?_
    rintro e w2 ⟨rfl, hb2⟩
    have hB2 := hB1.trans (hb2.mono hB1.size)
    replace H0 := H0.below hb2
    replace c0 := bkeep hb2 c0 rfl
    replace c1 := bkeep hb2 c1 rfl
    clear hB1 hb2 hE
    go_wp2_with fail
    refine (hP _ _ _ _ s g h _ H0 hs hg hh).mono ?_
    rintro e w3 ⟨xa, xl, xc, xs, xe, rfl, hX, tX, hb3⟩
    have hB3 := hB2.trans (hb3.mono hB2.size)
    replace H0 := H0.below hb3
    replace c0 := bkeep hb3 c0 rfl
    replace c1 := bkeep hb3 c1 rfl
    clear hB2 hb3 hP
    go_wp2_with fail
    refine (r7pack_any _ _ _ _ s g h _ H0 hg hh).mono ?_
    rintro e w4 ⟨ya, yl, yc, ys, ye, rfl, hY, tY, hb4⟩
    obtain ⟨rfl, rfl⟩ := tX.unique tY
    have hB4 := hB3.trans (hb4.mono hB3.size)
    have HS := (show Hid _ from same_any _ _ _ _ _ _ _ _ _ (hX.below hb4) hY)
    rw [sameB_self] at HS
    clear hB3 hb4 hX hY tX tY H0 c0 c1
    go_wp2_with fail
    refine Calls.mono HS.out ?_
    rintro e w5 ⟨rfl, hb5⟩
    have hB5 := hB4.trans (hb5.mono hB4.size)
    clear HS hB4 hb5
    go_wp2
    go_ret
    exact ⟨by simp, hB5⟩

set_option maxRecDepth 20000 in
set_option maxHeartbeats 3200000 in
theorem rooms_walk (hE : CodOk) (hR : RmOk) (r m k : Int) (a0 : Option Addr) (len0 cap0 : Nat) (z0 : List Int) (w : World) (hr : -9223372036854775808 ≤ r ∧ r < 9223372036854775808) (hm : -9223372036854775808 ≤ m ∧ m < 9223372036854775808) (hk : -9223372036854775808 ≤ k ∧ k < 9223372036854775808) (H0 : Nums w a0 len0 cap0 z0) :
    Calls Try.prog 6 #[.slice a0 len0 cap0, .agg #[.int .i64 r, .int .i64 m, .int .i64 k]] w fun e w' => e = .returned (.bool true) ∧ Below w.heap.size w w' := by
  have hV := (Below.refl w.heap.size w).alloc (Nat.le_refl _) (.cells #[.int .i64 r, .int .i64 m, .int .i64 k] 42)
  have c0 : (w.alloc (.cells #[.int .i64 r, .int .i64 m, .int .i64 k] 42)).cell? ⟨w.heap.size, 0, none⟩ = some (.int .i64 r) := by simp
  have c1 : (w.alloc (.cells #[.int .i64 r, .int .i64 m, .int .i64 k] 42)).cell? ⟨w.heap.size, 1, none⟩ = some (.int .i64 m) := by simp
  have c2 : (w.alloc (.cells #[.int .i64 r, .int .i64 m, .int .i64 k] 42)).cell? ⟨w.heap.size, 2, none⟩ = some (.int .i64 k) := by simp
  replace H0 := H0.below hV
  obtain ⟨V, hVe⟩ : ∃ V, V = w.alloc (.cells #[.int .i64 r, .int .i64 m, .int .i64 k] 42) := ⟨_, rfl⟩
  have hz : V.heap.size = w.heap.size + 1 := by rw [hVe]; simp
  rw [← hVe] at hV c0 c1 c2 H0
  have HVe : Hid (V = w.alloc (.cells #[.int .i64 r, .int .i64 m, .int .i64 k] 42)) := hVe
  have HF := (show Hid _ from qfew_one _ _ _ _ V H0)
  have HZ : Hid (V.heap.size = w.heap.size + 1) := hz
  clear H0 hVe hz
  go_enter Try.func6, Try.ntmps6
  go_wp2_with fail
  rw [← HVe.out, ← HZ.out]
  refine Calls.mono HF.out ?_
  rintro e w1 ⟨rfl, H0, hb1⟩
  have hB1 := hV.trans (hb1.mono hV.size)
  replace c0 := bkeep hb1 c0 rfl
  replace c1 := bkeep hb1 c1 rfl
  replace c2 := bkeep hb1 c2 rfl
  clear HF HVe HZ hb1 hV
  cases hmm : manyB 20 [len0] with
  | false =>
    clear H0
    go_wp2
    go_ret
    exact ⟨rfl, hB1⟩
  | true =>
    go_wp2_with fail
    refine (awake7_any hE _).mono ?_
    rintro e w2 ⟨rfl, hb2⟩
    have hB2 := hB1.trans (hb2.mono hB1.size)
    replace H0 := H0.below hb2
    replace c0 := bkeep hb2 c0 rfl
    replace c1 := bkeep hb2 c1 rfl
    replace c2 := bkeep hb2 c2 rfl
    clear hB1 hb2 hE
    go_wp2_with fail
    refine (hR _ _ _ _ r m k _ H0 hr hm hk).mono ?_
    rintro e w3 ⟨x, xe, rfl, tX, hb3⟩
    have hB3 := hB2.trans (hb3.mono hB2.size)
    replace H0 := H0.below hb3
    replace c0 := bkeep hb3 c0 rfl
    replace c1 := bkeep hb3 c1 rfl
    replace c2 := bkeep hb3 c2 rfl
    clear hB2 hb3 hR
    go_wp2_with fail
    refine (r7room_any _ _ _ _ r m k _ H0 hr hm hk).mono ?_
    rintro e w4 ⟨y, ye, rfl, tY, hb4⟩
    obtain ⟨rfl, rfl⟩ := tX.unique tY
    have hB4 := hB3.trans (hb4.mono hB3.size)
    clear hB3 hb4 tX tY H0 c0 c1 c2
    go_wp2
    go_ret
    exact ⟨by simp, hB4⟩
end Go.Proofs.Ytambpcgdaogojaa

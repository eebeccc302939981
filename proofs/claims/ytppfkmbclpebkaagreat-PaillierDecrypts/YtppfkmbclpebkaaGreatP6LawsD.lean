/-
  The walk of stage 6's law on what is decrypted.
-/
import Derived.Test.YtppfkmbclpebkaaGreatP6LawsO
import Derived.Test.YtppfkmbclpebkaaGreatRef6D
namespace Go.Proofs.YtppfkmbclpebkaaGreat
open Go.RowKit

set_option maxRecDepth 20000 in
set_option maxHeartbeats 3200000 in
theorem decrypts_walk (hE : EncOk) (hD : DecOk) (hI : RInvOk) (P Q : Nat) (a0 : Option Addr) (len0 cap0 : Nat) (z0 : List Int) (w : World) (p1 : P < 18446744073709551616) (q1 : Q < 18446744073709551616) (H0 : Nums w a0 len0 cap0 z0) :
    Calls Tryz.prog 7 #[.agg #[.int .u64 (P : Int), .int .u64 (Q : Int)], .slice a0 len0 cap0] w fun e w' => e = .returned (.bool true) ∧ Below w.heap.size w w' := by
  obtain ⟨V, hVe⟩ : ∃ V, V = w.alloc (.cells #[.int .u64 (P : Int), .int .u64 (Q : Int)] 24) := ⟨_, rfl⟩
  have hB0 : Below w.heap.size w V := by rw [hVe]; exact (Below.refl w.heap.size w).alloc (Nat.le_refl _) _
  have hz : V.heap.size = w.heap.size + 1 := by rw [hVe]; simp
  have c0 : V.cell? ⟨w.heap.size, 0, none⟩ = some (.int .u64 (P : Int)) := by rw [hVe]; simp
  have c1 : V.cell? ⟨w.heap.size, 1, none⟩ = some (.int .u64 (Q : Int)) := by rw [hVe]; simp
  have J0 := H0.below hB0
  have HVe : Hid (V = w.alloc (.cells #[.int .u64 (P : Int), .int .u64 (Q : Int)] 24)) := hVe
  clear hVe H0
  go_enter Tryz.func7, Tryz.ntmps7
  go_wp2_with fail
  rw [← HVe.out, ← hz]
  refine (pfew_one _ _ _ _ V J0).mono ?_
  rintro e w1 ⟨rfl, H0, hb1'⟩
  have hb1 := hB0.trans (hb1'.mono hB0.size)
  replace c0 := bkeep hb1' c0 rfl
  replace c1 := bkeep hb1' c1 rfl
  clear HVe hz hB0 hb1' J0
  cases hm : manyB 20 [len0] with
  | false =>
    clear H0 c0 c1
    go_wp2
    go_ret
    exact ⟨rfl, hb1⟩
  | true =>
    go_wp2_with fail
    refine (awake_any hE _).mono ?_
    rintro e w2 ⟨rfl, hb2⟩
    have hB2 := hb1.trans (hb2.mono hb1.size)
    have K0 := H0.below hb2
    replace c0 := bkeep hb2 c0 rfl
    replace c1 := bkeep hb2 c1 rfl
    clear H0 hb1 hb2
    go_wp2_with fail
    refine (hD P Q _ _ _ _ _ p1 q1 K0).mono ?_
    rintro e w3 ⟨xa, xl, xc, xs, xe, rfl, hX, tX, hb3⟩
    have hB3 := hB2.trans (hb3.mono hB2.size)
    have M0 := K0.below hb3
    replace c0 := bkeep hb3 c0 rfl
    replace c1 := bkeep hb3 c1 rfl
    clear K0 hB2 hb3
    go_wp2_with fail
    refine (r6decrypt_any hI P Q _ _ _ _ _ p1 q1 M0).mono ?_
    rintro e w4 ⟨ya, yl, yc, ys, ye, rfl, hY, tY, hb4⟩
    obtain ⟨rfl, rfl⟩ := tX.unique tY
    have hB4 := hB3.trans (hb4.mono hB3.size)
    have hX4 := hX.below hb4
    have HS := (show Hid _ from same_any _ _ _ _ _ _ _ _ _ hX4 hY)
    rw [sameB_self] at HS
    clear M0 hB3 hb4 hX hX4 hY tX tY c0 c1
    go_wp2_with fail
    refine Calls.mono HS.out ?_
    rintro e w5 ⟨rfl, hb5⟩
    have hB5 := hB4.trans (hb5.mono hB4.size)
    clear HS hB4 hb5 hE hD hI
    go_wp2
    go_ret
    exact ⟨by simp, hB5⟩
end Go.Proofs.YtppfkmbclpebkaaGreat

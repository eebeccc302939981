/-
  The walk of stage 6's law on keys.
-/
import Derived.Test.YtppfkmbclpebkaaGreatP6LawsO
import Derived.Test.YtppfkmbclpebkaaGreatRef6A
import Derived.Test.YtppfkmbclpebkaaGreatRef6P
namespace Go.Proofs.YtppfkmbclpebkaaGreat
open Go.RowKit

set_option maxRecDepth 20000 in
set_option maxHeartbeats 3200000 in
theorem keys_walk (hE : EncOk) (hP : PubOk) (hM : MayOk) (hV : ValidOk) (P Q : Nat) (a0 a1 : Option Addr) (len0 cap0 len1 cap1 : Nat) (z0 z1 : List Int) (w : World) (p1 : P < 18446744073709551616) (q1 : Q < 18446744073709551616) (H0 : Nums w a0 len0 cap0 z0) (H1 : Nums w a1 len1 cap1 z1) :
    Calls Tryz.prog 3 #[.agg #[.int .u64 (P : Int), .int .u64 (Q : Int)], .slice a0 len0 cap0, .slice a1 len1 cap1] w fun e w' => e = .returned (.bool true) ∧ Below w.heap.size w w' := by
  obtain ⟨V, hVe⟩ : ∃ V, V = w.alloc (.cells #[.int .u64 (P : Int), .int .u64 (Q : Int)] 24) := ⟨_, rfl⟩
  have hB0 : Below w.heap.size w V := by rw [hVe]; exact (Below.refl w.heap.size w).alloc (Nat.le_refl _) _
  have hz : V.heap.size = w.heap.size + 1 := by rw [hVe]; simp
  have c0 : V.cell? ⟨w.heap.size, 0, none⟩ = some (.int .u64 (P : Int)) := by rw [hVe]; simp
  have c1 : V.cell? ⟨w.heap.size, 1, none⟩ = some (.int .u64 (Q : Int)) := by rw [hVe]; simp
  have J0 := H0.below hB0
  have J1 := H1.below hB0
  have HVe : Hid (V = w.alloc (.cells #[.int .u64 (P : Int), .int .u64 (Q : Int)] 24)) := hVe
  clear hVe H0 H1
  go_enter Tryz.func3, Tryz.ntmps3
  go_wp2_with fail
  rw [← HVe.out, ← hz]
  refine (pfew_two _ _ _ _ _ _ _ _ V J0 J1).mono ?_
  rintro e w1 ⟨rfl, H0, H1, hb1'⟩
  have hb1 := hB0.trans (hb1'.mono hB0.size)
  replace c0 := bkeep hb1' c0 rfl
  replace c1 := bkeep hb1' c1 rfl
  clear HVe hz hB0 hb1' J0 J1
  cases hm : manyB 20 [len0, len1] with
  | false =>
    clear H0 H1 c0 c1
    go_wp2
    go_ret
    exact ⟨rfl, hb1⟩
  | true =>
    go_wp2_with fail
    refine (awake_any hE _).mono ?_
    rintro e w2 ⟨rfl, hb2⟩
    have hB2 := hb1.trans (hb2.mono hb1.size)
    have K0 := H0.below hb2
    have K1 := H1.below hb2
    replace c0 := bkeep hb2 c0 rfl
    replace c1 := bkeep hb2 c1 rfl
    clear H0 H1 hb1 hb2
    go_wp2_with fail
    refine (hP P Q _ p1 q1).mono ?_
    rintro e w3 ⟨xa, xl, xc, xs, xe, rfl, hX, tX, hb3⟩
    have hB3 := hB2.trans (hb3.mono hB2.size)
    have M0 := K0.below hb3
    have M1 := K1.below hb3
    replace c0 := bkeep hb3 c0 rfl
    replace c1 := bkeep hb3 c1 rfl
    clear K0 K1 hB2 hb3
    go_wp2_with fail
    refine (r6public_any P Q _ p1 q1).mono ?_
    rintro e w4 ⟨ya, yl, yc, ys, ye, rfl, hY, tY, hb4⟩
    obtain ⟨rfl, rfl⟩ := tX.unique tY
    have hB4 := hB3.trans (hb4.mono hB3.size)
    have hX4 := hX.below hb4
    have N0 := M0.below hb4
    have N1 := M1.below hb4
    have HS := (show Hid _ from same_any _ _ _ _ _ _ _ _ _ hX4 hY)
    rw [sameB_self] at HS
    clear M0 M1 hB3 hb4 hX hX4 hY tX tY c0 c1
    go_wp2_with fail
    refine Calls.mono HS.out ?_
    rintro e w5 ⟨rfl, hb5⟩
    have hB5 := hB4.trans (hb5.mono hB4.size)
    have O0 := N0.below hb5
    have O1 := N1.below hb5
    clear HS hB4 hb5 N0 N1
    have hxe : (xe == xe) = true := by simp
    go_wp2_with fail
    refine (hM _ _ _ _ _ O0).mono ?_
    rintro e w6 ⟨rfl, hb6⟩
    have hB6 := hB5.trans (hb6.mono hB5.size)
    have Q0 := O0.below hb6
    have Q1 := O1.below hb6
    clear hB5 hb6 O0 O1
    go_wp2_with fail
    refine (r6may_any _ _ _ _ _ Q0).mono ?_
    rintro e w7 ⟨rfl, rfl⟩
    generalize pubB z0 = pb
    have hpb : (pb == pb) = true := by simp
    go_wp2_with fail
    refine (hV _ _ _ _ _ _ _ _ _ Q0 Q1).mono ?_
    rintro e w8 ⟨rfl, hb8⟩
    have hB8 := hB6.trans (hb8.mono hB6.size)
    have R0 := Q0.below hb8
    have R1 := Q1.below hb8
    clear hB6 hb8 Q0 Q1
    go_wp2_with fail
    refine (r6valid_any _ _ _ _ _ _ _ _ _ R0 R1).mono ?_
    rintro e w9 ⟨rfl, hb9⟩
    have hB9 := hB8.trans (hb9.mono hB8.size)
    clear R0 R1 hB8 hb9 hE hP hM hV
    generalize validB z0 z1 = vb
    go_wp2
    go_ret
    exact ⟨by simp, hB9⟩
end Go.Proofs.YtppfkmbclpebkaaGreat

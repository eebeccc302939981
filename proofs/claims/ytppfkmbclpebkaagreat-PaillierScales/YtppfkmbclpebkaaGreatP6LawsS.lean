/-
  Walks of stage 6's laws on sums and scales.
-/
import Derived.Test.YtppfkmbclpebkaaGreatP6LawsO
import Derived.Test.YtppfkmbclpebkaaGreatRef6B
namespace Go.Proofs.YtppfkmbclpebkaaGreat
open Go.RowKit

set_option maxRecDepth 20000 in
set_option maxHeartbeats 3200000 in
theorem sums_walk (hE : EncOk) (hA : AddOk) (hB : PlainOk) (a0 a1 a2 a3 : Option Addr) (len0 cap0 len1 cap1 len2 cap2 len3 cap3 : Nat) (z0 z1 z2 z3 : List Int) (w : World) (H0 : Nums w a0 len0 cap0 z0) (H1 : Nums w a1 len1 cap1 z1) (H2 : Nums w a2 len2 cap2 z2) (H3 : Nums w a3 len3 cap3 z3) :
    Calls Tryz.prog 5 #[.slice a0 len0 cap0, .agg #[.slice a1 len1 cap1, .slice a2 len2 cap2], .slice a3 len3 cap3] w fun e w' => e = .returned (.bool true) ∧ Below w.heap.size w w' := by
  obtain ⟨V, hVe⟩ : ∃ V, V = w.alloc (.cells #[.slice a1 len1 cap1, .slice a2 len2 cap2] 46) := ⟨_, rfl⟩
  have hV : Below w.heap.size w V := by rw [hVe]; exact (Below.refl w.heap.size w).alloc (Nat.le_refl _) _
  have hz : V.heap.size = w.heap.size + 1 := by rw [hVe]; simp
  have c0 : V.cell? ⟨w.heap.size, 0, none⟩ = some (.slice a1 len1 cap1) := by rw [hVe]; simp
  have c1 : V.cell? ⟨w.heap.size, 1, none⟩ = some (.slice a2 len2 cap2) := by rw [hVe]; simp
  have J0 := H0.below hV
  have J1 := H1.below hV
  have J2 := H2.below hV
  have J3 := H3.below hV
  have HVe : Hid (V = w.alloc (.cells #[.slice a1 len1 cap1, .slice a2 len2 cap2] 46)) := hVe
  clear hVe H0 H1 H2 H3
  go_enter Tryz.func5, Tryz.ntmps5
  go_wp2_with fail
  rw [← HVe.out, ← hz]
  refine (pfew_four _ _ _ _ _ _ _ _ _ _ _ _ _ _ _ _ V J0 J1 J2 J3).mono ?_
  rintro e w1 ⟨rfl, H0, H1, H2, H3, hb1'⟩
  have hb1 := hV.trans (hb1'.mono hV.size)
  clear HVe hz hV hb1' c0 c1 J0 J1 J2 J3
  cases hm : manyB 20 [len0, len1, len2, len3] with
  | false =>
    clear H0 H1 H2 H3
    go_wp2
    go_ret
    exact ⟨rfl, hb1⟩
  | true =>
    go_wp2_with fail
    refine (awake_any hE _).mono ?_
    rintro e w2 ⟨rfl, hb2⟩
    have hB2 := hb1.trans (hb2.mono hb1.size)
    have K0 := H0.below hb2
    have K1 := H1.below hb2
    have K2 := H2.below hb2
    have K3 := H3.below hb2
    clear H0 H1 H2 H3 hb1 hb2
    go_wp2_with fail
    refine (hA _ _ _ _ _ _ _ _ _ _ _ _ _ K0 K1 K2).mono ?_
    rintro e w3 ⟨xa, xl, xc, xs, xe, rfl, hX, tX, hb3⟩
    have hB3 := hB2.trans (hb3.mono hB2.size)
    have M0 := K0.below hb3
    have M1 := K1.below hb3
    have M2 := K2.below hb3
    have M3 := K3.below hb3
    clear K0 K1 K2 K3 hB2 hb3
    go_wp2_with fail
    refine (r6add_any _ _ _ _ _ _ _ _ _ _ _ _ _ M0 M1 M2).mono ?_
    rintro e w4 ⟨ya, yl, yc, ys, ye, rfl, hY, tY, hb4⟩
    obtain ⟨rfl, rfl⟩ := tX.unique tY
    have hB4 := hB3.trans (hb4.mono hB3.size)
    have hX4 := hX.below hb4
    have N0 := M0.below hb4
    have N1 := M1.below hb4
    have N3 := M3.below hb4
    have HS := (show Hid _ from same_any _ _ _ _ _ _ _ _ _ hX4 hY)
    rw [sameB_self] at HS
    clear M0 M1 M2 M3 hB3 hb4 hX hX4 hY tX tY
    go_wp2_with fail
    refine Calls.mono HS.out ?_
    rintro e w5 ⟨rfl, hb5⟩
    have hB5 := hB4.trans (hb5.mono hB4.size)
    have O0 := N0.below hb5
    have O1 := N1.below hb5
    have O3 := N3.below hb5
    clear HS hB4 hb5 N0 N1 N3
    go_wp2_with fail
    refine (hB _ _ _ _ _ _ _ _ _ _ _ _ _ O0 O1 O3).mono ?_
    rintro e w6 ⟨ua, ul, uc, us, ue, rfl, hU, tU, hb6⟩
    have hB6 := hB5.trans (hb6.mono hB5.size)
    have Q0 := O0.below hb6
    have Q1 := O1.below hb6
    have Q3 := O3.below hb6
    clear O0 O1 O3 hB5 hb6
    go_wp2_with fail
    refine (r6plain2_any _ _ _ _ _ _ _ _ _ _ _ _ _ Q0 Q1 Q3).mono ?_
    rintro e w7 ⟨va, vl, vc, vs', ve, rfl, hW, tW, hb7⟩
    obtain ⟨rfl, rfl⟩ := tU.unique tW
    have hB7 := hB6.trans (hb7.mono hB6.size)
    have hU7 := hU.below hb7
    have HS := (show Hid _ from same_any _ _ _ _ _ _ _ _ _ hU7 hW)
    rw [sameB_self] at HS
    clear Q0 Q1 Q3 hB6 hb7 hU hU7 hW tU tW
    go_wp2_with fail
    refine Calls.mono HS.out ?_
    rintro e w8 ⟨rfl, hb8⟩
    have hB8 := hB7.trans (hb8.mono hB7.size)
    clear HS hB7 hb8 hE hA hB
    go_wp2
    go_ret
    exact ⟨by simp, hB8⟩
set_option maxRecDepth 20000 in
set_option maxHeartbeats 3200000 in
theorem scales_walk (hE : EncOk) (hA : ScaleOk) (hB : AgainOk) (a0 a1 a2 a3 : Option Addr) (len0 cap0 len1 cap1 len2 cap2 len3 cap3 : Nat) (z0 z1 z2 z3 : List Int) (w : World) (H0 : Nums w a0 len0 cap0 z0) (H1 : Nums w a1 len1 cap1 z1) (H2 : Nums w a2 len2 cap2 z2) (H3 : Nums w a3 len3 cap3 z3) :
    Calls Tryz.prog 6 #[.slice a0 len0 cap0, .slice a1 len1 cap1, .agg #[.slice a2 len2 cap2, .slice a3 len3 cap3]] w fun e w' => e = .returned (.bool true) ∧ Below w.heap.size w w' := by
  obtain ⟨V, hVe⟩ : ∃ V, V = w.alloc (.cells #[.slice a2 len2 cap2, .slice a3 len3 cap3] 46) := ⟨_, rfl⟩
  have hV : Below w.heap.size w V := by rw [hVe]; exact (Below.refl w.heap.size w).alloc (Nat.le_refl _) _
  have hz : V.heap.size = w.heap.size + 1 := by rw [hVe]; simp
  have c0 : V.cell? ⟨w.heap.size, 0, none⟩ = some (.slice a2 len2 cap2) := by rw [hVe]; simp
  have c1 : V.cell? ⟨w.heap.size, 1, none⟩ = some (.slice a3 len3 cap3) := by rw [hVe]; simp
  have J0 := H0.below hV
  have J1 := H1.below hV
  have J2 := H2.below hV
  have J3 := H3.below hV
  have HVe : Hid (V = w.alloc (.cells #[.slice a2 len2 cap2, .slice a3 len3 cap3] 46)) := hVe
  clear hVe H0 H1 H2 H3
  go_enter Tryz.func6, Tryz.ntmps6
  go_wp2_with fail
  rw [← HVe.out, ← hz]
  refine (pfew_four _ _ _ _ _ _ _ _ _ _ _ _ _ _ _ _ V J0 J1 J2 J3).mono ?_
  rintro e w1 ⟨rfl, H0, H1, H2, H3, hb1'⟩
  have hb1 := hV.trans (hb1'.mono hV.size)
  clear HVe hz hV hb1' c0 c1 J0 J1 J2 J3
  cases hm : manyB 20 [len0, len1, len2, len3] with
  | false =>
    clear H0 H1 H2 H3
    go_wp2
    go_ret
    exact ⟨rfl, hb1⟩
  | true =>
    go_wp2_with fail
    refine (awake_any hE _).mono ?_
    rintro e w2 ⟨rfl, hb2⟩
    have hB2 := hb1.trans (hb2.mono hb1.size)
    have K0 := H0.below hb2
    have K1 := H1.below hb2
    have K2 := H2.below hb2
    have K3 := H3.below hb2
    clear H0 H1 H2 H3 hb1 hb2
    go_wp2_with fail
    refine (hA _ _ _ _ _ _ _ _ _ _ _ _ _ K0 K1 K2).mono ?_
    rintro e w3 ⟨xa, xl, xc, xs, xe, rfl, hX, tX, hb3⟩
    have hB3 := hB2.trans (hb3.mono hB2.size)
    have M0 := K0.below hb3
    have M1 := K1.below hb3
    have M2 := K2.below hb3
    have M3 := K3.below hb3
    clear K0 K1 K2 K3 hB2 hb3
    go_wp2_with fail
    refine (r6scale_any _ _ _ _ _ _ _ _ _ _ _ _ _ M0 M1 M2).mono ?_
    rintro e w4 ⟨ya, yl, yc, ys, ye, rfl, hY, tY, hb4⟩
    obtain ⟨rfl, rfl⟩ := tX.unique tY
    have hB4 := hB3.trans (hb4.mono hB3.size)
    have hX4 := hX.below hb4
    have N0 := M0.below hb4
    have N1 := M1.below hb4
    have N3 := M3.below hb4
    have HS := (show Hid _ from same_any _ _ _ _ _ _ _ _ _ hX4 hY)
    rw [sameB_self] at HS
    clear M0 M1 M2 M3 hB3 hb4 hX hX4 hY tX tY
    go_wp2_with fail
    refine Calls.mono HS.out ?_
    rintro e w5 ⟨rfl, hb5⟩
    have hB5 := hB4.trans (hb5.mono hB4.size)
    have O0 := N0.below hb5
    have O1 := N1.below hb5
    have O3 := N3.below hb5
    clear HS hB4 hb5 N0 N1 N3
    go_wp2_with fail
    refine (hB _ _ _ _ _ _ _ _ _ _ _ _ _ O0 O1 O3).mono ?_
    rintro e w6 ⟨ua, ul, uc, us, ue, rfl, hU, tU, hb6⟩
    have hB6 := hB5.trans (hb6.mono hB5.size)
    have Q0 := O0.below hb6
    have Q1 := O1.below hb6
    have Q3 := O3.below hb6
    clear O0 O1 O3 hB5 hb6
    go_wp2_with fail
    refine (r6again_any _ _ _ _ _ _ _ _ _ _ _ _ _ Q0 Q1 Q3).mono ?_
    rintro e w7 ⟨va, vl, vc, vs', ve, rfl, hW, tW, hb7⟩
    obtain ⟨rfl, rfl⟩ := tU.unique tW
    have hB7 := hB6.trans (hb7.mono hB6.size)
    have hU7 := hU.below hb7
    have HS := (show Hid _ from same_any _ _ _ _ _ _ _ _ _ hU7 hW)
    rw [sameB_self] at HS
    clear Q0 Q1 Q3 hB6 hb7 hU hU7 hW tU tW
    go_wp2_with fail
    refine Calls.mono HS.out ?_
    rintro e w8 ⟨rfl, hb8⟩
    have hB8 := hB7.trans (hb8.mono hB7.size)
    clear HS hB7 hb8 hE hA hB
    go_wp2
    go_ret
    exact ⟨by simp, hB8⟩
end Go.Proofs.YtppfkmbclpebkaaGreat

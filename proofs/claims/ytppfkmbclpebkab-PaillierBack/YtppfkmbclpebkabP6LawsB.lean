/-
  The walk of stage 6's law: what was encrypted is decrypted.
-/
import Derived.Test.YtppfkmbclpebkabP6LawsO
import Derived.Test.YtppfkmbclpebkabP6Back
namespace Go.Proofs.Ytppfkmbclpebkab
open Go.RowKit

set_option maxRecDepth 20000 in
set_option maxHeartbeats 6400000 in
theorem back_walk (hE : EncOk) (hP : PubOk) (hD : DecOk) (hVl : ValidOk) (P Q : Nat) (a0 a1 : Option Addr) (len0 cap0 len1 cap1 : Nat) (z0 z1 : List Int) (w : World) (p1 : P < 18446744073709551616) (q1 : Q < 18446744073709551616) (H0 : Nums w a0 len0 cap0 z0) (H1 : Nums w a1 len1 cap1 z1) :
    Calls Try.prog 3 #[.agg #[.int .u64 (P : Int), .int .u64 (Q : Int)], .slice a0 len0 cap0, .slice a1 len1 cap1] w fun e w' => e = .returned (.bool true) ∧ Below w.heap.size w w' := by
  obtain ⟨V, hVe⟩ : ∃ V, V = w.alloc (.cells #[.int .u64 (P : Int), .int .u64 (Q : Int)] 24) := ⟨_, rfl⟩
  have hB0 : Below w.heap.size w V := by rw [hVe]; exact (Below.refl w.heap.size w).alloc (Nat.le_refl _) _
  have hz : V.heap.size = w.heap.size + 1 := by rw [hVe]; simp
  have c0 : V.cell? ⟨w.heap.size, 0, none⟩ = some (.int .u64 (P : Int)) := by rw [hVe]; simp
  have c1 : V.cell? ⟨w.heap.size, 1, none⟩ = some (.int .u64 (Q : Int)) := by rw [hVe]; simp
  have J0 := H0.below hB0
  have J1 := H1.below hB0
  have HVe : Hid (V = w.alloc (.cells #[.int .u64 (P : Int), .int .u64 (Q : Int)] 24)) := hVe
  clear hVe H0 H1
  go_enter Try.func3, Try.ntmps3
  go_wp2_with fail
  rw [← HVe.out, ← hz]
  refine (pfew_two _ _ _ _ _ _ _ _ V J0 J1).mono ?_
  rintro e w1 ⟨rfl, H0, H1, hb1'⟩
  have hb1 := hB0.trans (hb1'.mono hB0.size)
  replace c0 := bkeep hb1' c0 rfl
  replace c1 := bkeep hb1' c1 rfl
  clear HVe hz hB0 hb1' J0 J1
  cases hm : manyB 20 [len0, len1] with
  | false =>
    clear H0 H1 c0 c1
    go_wp2
    go_ret
    exact ⟨rfl, hb1⟩
  | true =>
    go_wp2_with fail
    refine (awake_any hE _).mono ?_
    rintro e w2 ⟨rfl, hb2⟩
    have hB2 := hb1.trans (hb2.mono hb1.size)
    have K0 := H0.below hb2
    have K1 := H1.below hb2
    replace c0 := bkeep hb2 c0 rfl
    replace c1 := bkeep hb2 c1 rfl
    clear H0 H1 hb1 hb2
    go_wp2_with fail
    refine (hP P Q _ p1 q1).mono ?_
    rintro e w3 ⟨na, nl, nc, ns, ne, rfl, hN, tN, hb3⟩
    have hB3 := hB2.trans (hb3.mono hB2.size)
    have M0 := K0.below hb3
    have M1 := K1.below hb3
    replace c0 := bkeep hb3 c0 rfl
    replace c1 := bkeep hb3 c1 rfl
    clear K0 K1 hB2 hb3 hP
    rcases tN with ⟨hK, hn, rfl⟩ | ⟨hK, rfl, rfl⟩
    · have HK : Hid (KeyOk P Q) := hK
      clear hK
      go_wp2_with fail
      refine (hE _ _ _ _ _ _ _ _ _ _ _ _ _ hN M0 M1).mono ?_
      rintro e w4 ⟨xa, xl, xc, xs, xe, rfl, hX, tX, hb4⟩
      have hB4 := hB3.trans (hb4.mono hB3.size)
      have O := hN.below hb4
      have O0 := M0.below hb4
      replace c0 := bkeep hb4 c0 rfl
      replace c1 := bkeep hb4 c1 rfl
      clear M0 M1 hB3 hb4 hE hN
      by_cases he : xe = 0
      · subst he
        obtain ⟨c, hc, hcx, hmr⟩ := enc_hides HK.out hn tX
        have hms := IsN.self O0.digs hmr
        have HH : Hid (Hides P Q c (nv z0)) := hc
        clear tX hc HK
        go_wp2_with fail
        refine (hD P Q _ _ _ _ _ p1 q1 hX).mono ?_
        rintro e w5 ⟨ya, yl, yc, ys, ye, rfl, hY, tY, hb5⟩
        obtain ⟨rfl, hys⟩ := HH.out.told hcx tY
        obtain rfl := hys.unique hms
        have hB5 := hB4.trans (hb5.mono hB4.size)
        have hX5 := hX.below hb5
        have Q' := O.below hb5
        have Q0 := O0.below hb5
        have HS := (show Hid _ from same_any _ _ _ _ _ _ _ _ _ hY Q0)
        rw [sameB_self] at HS
        clear hX tY hb5 hB4 O O0 hD c0 c1 hY hys
        go_wp2_with fail
        refine Calls.mono HS.out ?_
        rintro e w6 ⟨rfl, hb6⟩
        have hB6 := hB5.trans (hb6.mono hB5.size)
        have hX6 := hX5.below hb6
        have R' := Q'.below hb6
        have HV := (show Hid _ from hVl _ _ _ _ _ _ _ _ _ R' hX6)
        rw [HH.out.valid hn hcx] at HV
        clear HS hB5 hb6 hX5 Q' Q0 hVl
        go_wp2_with fail
        refine Calls.mono HV.out ?_
        rintro e w7 ⟨rfl, hb7⟩
        have hB7 := hB6.trans (hb7.mono hB6.size)
        clear HV hB6 hb7 R' hX6 HH
        go_wp2
        go_ret
        exact ⟨rfl, hB7⟩
      · have hne : (xe != 0) = true := by simp [he]
        have hE2 := enc_err tX he
        clear tX hX O O0 c0 c1 hD hVl HK hn he
        rcases hE2 with rfl | rfl
        · go_wp2
          go_ret
          exact ⟨rfl, hB4⟩
        · go_wp2
          go_ret
          exact ⟨rfl, hB4⟩
    · clear hN M0 M1 c0 c1 hE hD hVl hK
      go_wp2
      go_ret
      exact ⟨rfl, hB3⟩
end Go.Proofs.Ytppfkmbclpebkab

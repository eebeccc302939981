/-
  The walk of stage 6's law on numbers hidden behind others.
-/
import Derived.Test.YtppfkmbclpebkaaP6LawsO
import Derived.Test.YtppfkmbclpebkaaRef6B
namespace Go.Proofs.Ytppfkmbclpebkaa
open Go.RowKit

set_option maxHeartbeats 1600000 in
theorem encrypts_walk (hE : EncOk) (a0 a1 a2 : Option Addr) (len0 cap0 len1 cap1 len2 cap2 : Nat) (z0 z1 z2 : List Int) (w : World) (H0 : Nums w a0 len0 cap0 z0) (H1 : Nums w a1 len1 cap1 z1) (H2 : Nums w a2 len2 cap2 z2) :
    Calls Try.prog 3 #[.slice a0 len0 cap0, .slice a1 len1 cap1, .slice a2 len2 cap2] w fun e w' => e = .returned (.bool true) ∧ Below w.heap.size w w' := by
  have HF := (show Hid _ from pfew_three _ _ _ _ _ _ _ _ _ _ _ _ w H0 H1 H2)
  clear H0 H1 H2
  go_enter Try.func3, Try.ntmps3
  go_wp2_with fail
  refine Calls.mono HF.out ?_
  rintro e w1 ⟨rfl, H0, H1, H2, hb1⟩
  clear HF
  cases hm : manyB 20 [len0, len1, len2] with
  | false =>
    clear H0 H1 H2
    go_wp2
    go_ret
    exact ⟨rfl, hb1⟩
  | true =>
    go_wp2_with fail
    refine (awake_any hE _).mono ?_
    rintro e w2 ⟨rfl, hb2⟩
    have hB2 := hb1.trans (hb2.mono hb1.size)
    have K0 := H0.below hb2
    have K1 := H1.below hb2
    have K2 := H2.below hb2
    clear H0 H1 H2 hb1 hb2
    go_wp2_with fail
    refine (hE _ _ _ _ _ _ _ _ _ _ _ _ _ K0 K1 K2).mono ?_
    rintro e w3 ⟨xa, xl, xc, xs, xe, rfl, hX, tX, hb3⟩
    have hB3 := hB2.trans (hb3.mono hB2.size)
    have M0 := K0.below hb3
    have M1 := K1.below hb3
    have M2 := K2.below hb3
    clear K0 K1 K2 hB2 hb3
    go_wp2_with fail
    refine (r6encrypt_any _ _ _ _ _ _ _ _ _ _ _ _ _ M0 M1 M2).mono ?_
    rintro e w4 ⟨ya, yl, yc, ys, ye, rfl, hY, tY, hb4⟩
    obtain ⟨rfl, rfl⟩ := tX.unique tY
    have hB4 := hB3.trans (hb4.mono hB3.size)
    have hX4 := hX.below hb4
    have HS := (show Hid _ from same_any _ _ _ _ _ _ _ _ _ hX4 hY)
    rw [sameB_self] at HS
    clear M0 M1 M2 hB3 hb4 hX hX4 hY tX tY
    go_wp2_with fail
    refine Calls.mono HS.out ?_
    rintro e w5 ⟨rfl, hb5⟩
    have hB5 := hB4.trans (hb5.mono hB4.size)
    clear HS hB4 hb5 hE
    go_wp2
    go_ret
    exact ⟨by simp, hB5⟩
end Go.Proofs.Ytppfkmbclpebkaa

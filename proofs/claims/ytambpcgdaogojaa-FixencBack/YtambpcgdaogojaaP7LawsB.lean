/-
  The walk of stage 7's law on what was encoded or packed and is told again.
-/
import Derived.Test.YtambpcgdaogojaaP7LawsO
import Derived.Test.YtambpcgdaogojaaF7Back
import Derived.Test.YtambpcgdaogojaaModA
namespace Go.Proofs.Ytambpcgdaogojaa
open Go.RowKit

set_option maxRecDepth 20000 in
set_option maxHeartbeats 6400000 in
theorem fback_walk (hE : CodOk) (hD : DcOk) (hP : PkOk) (hU : UpOk) (m : Bool) (x0 x1 x2 : Int) (a0 a1 : Option Addr) (len0 cap0 len1 cap1 : Nat) (z0 z1 : List Int) (w : World) (hx0 : -9223372036854775808 ≤ x0 ∧ x0 < 9223372036854775808) (hx1 : -9223372036854775808 ≤ x1 ∧ x1 < 9223372036854775808) (H0 : Nums w a0 len0 cap0 z0) (H1 : Nums w a1 len1 cap1 z1) :
    Calls Try.prog 7 #[.slice a0 len0 cap0, .agg #[.bool m, .slice a1 len1 cap1], .agg #[.int .i64 x0, .int .i64 x1, .int .i64 x2]] w fun e w' => e = .returned (.bool true) ∧ Below w.heap.size w w' := by
  obtain ⟨V, hVe⟩ : ∃ V, V = (w.alloc (.cells #[.bool m, .slice a1 len1 cap1] 25)).alloc (.cells #[.int .i64 x0, .int .i64 x1, .int .i64 x2] 42) := ⟨_, rfl⟩
  have hz : V.heap.size = w.heap.size + 1 + 1 := by rw [hVe]; simp
  have hv1 := (Below.refl w.heap.size w).alloc (Nat.le_refl _) (.cells #[.bool m, .slice a1 len1 cap1] 25)
  have hv2 := (Below.refl (w.alloc (.cells #[.bool m, .slice a1 len1 cap1] 25)).heap.size (w.alloc (.cells #[.bool m, .slice a1 len1 cap1] 25))).alloc (Nat.le_refl _) (.cells #[.int .i64 x0, .int .i64 x1, .int .i64 x2] 42)
  have c0 : (w.alloc (.cells #[.bool m, .slice a1 len1 cap1] 25)).cell? ⟨w.heap.size, 0, none⟩ = some (.bool m) := by simp
  have c1 : (w.alloc (.cells #[.bool m, .slice a1 len1 cap1] 25)).cell? ⟨w.heap.size, 1, none⟩ = some (.slice a1 len1 cap1) := by simp
  replace c0 := bkeep hv2 c0 rfl
  replace c1 := bkeep hv2 c1 rfl
  have hV := hv1.trans (hv2.mono hv1.size)
  rw [← hVe] at c0 c1 hV
  have d0 : V.cell? ⟨w.heap.size + 1, 0, none⟩ = some (.int .i64 x0) := by rw [hVe]; simp
  have d1 : V.cell? ⟨w.heap.size + 1, 1, none⟩ = some (.int .i64 x1) := by rw [hVe]; simp
  have d2 : V.cell? ⟨w.heap.size + 1, 2, none⟩ = some (.int .i64 x2) := by rw [hVe]; simp
  replace H0 := H0.below hV
  replace H1 := H1.below hV
  have HVe : Hid (V = (w.alloc (.cells #[.bool m, .slice a1 len1 cap1] 25)).alloc (.cells #[.int .i64 x0, .int .i64 x1, .int .i64 x2] 42)) := hVe
  have HF := (show Hid _ from qfew_two _ _ _ _ _ _ _ _ V H0 H1)
  have HZ : Hid (V.heap.size = w.heap.size + 1 + 1) := hz
  clear H0 H1 hVe hz hv1 hv2
  go_enter Try.func7, Try.ntmps7
  go_wp2_with fail
  rw [← HVe.out, ← HZ.out]
  refine Calls.mono HF.out ?_
  rintro e w1 ⟨rfl, H0, H1, hb1⟩
  have hB1 := hV.trans (hb1.mono hV.size)
  replace c0 := bkeep hb1 c0 rfl
  replace c1 := bkeep hb1 c1 rfl
  replace d0 := bkeep hb1 d0 rfl
  replace d1 := bkeep hb1 d1 rfl
  replace d2 := bkeep hb1 d2 rfl
  clear HF HVe HZ hb1 hV
  cases hmm : manyB 20 [len0, len1] with
  | false =>
    clear H0 H1
    go_wp2
    go_ret
    exact ⟨rfl, hB1⟩
  | true =>
    go_wp2_with fail
    refine (awake7_any hE _).mono ?_
    rintro e w2 ⟨rfl, hb2⟩
    have hB2 := hB1.trans (hb2.mono hB1.size)
    replace H0 := H0.below hb2
    replace H1 := H1.below hb2
    replace c0 := bkeep hb2 c0 rfl
    replace c1 := bkeep hb2 c1 rfl
    replace d0 := bkeep hb2 d0 rfl
    replace d1 := bkeep hb2 d1 rfl
    replace d2 := bkeep hb2 d2 rfl
    clear hB1 hb2
    go_wp2_with fail
    refine (hE m _ _ _ _ _ _ _ _ _ H0 H1).mono ?_
    rintro e w3 ⟨xa, xl, xc, xs, xe, rfl, hX, tX, hb3⟩
    have hB3 := hB2.trans (hb3.mono hB2.size)
    replace H0 := H0.below hb3
    replace H1 := H1.below hb3
    replace c0 := bkeep hb3 c0 rfl
    replace c1 := bkeep hb3 c1 rfl
    replace d0 := bkeep hb3 d0 rfl
    replace d1 := bkeep hb3 d1 rfl
    replace d2 := bkeep hb3 d2 rfl
    clear hB2 hb3 hE
    rcases tX with ⟨e, hf, rfl, rfl⟩ | ⟨hf, hxs, rfl⟩
    · have hne : (xe == 0) = false := by have := codF_ne0 hf; simpa using this
      have hBT := hB3
      clear hf hX H1 c0 c1 hB3 hD
      have hsb := and_range7 x2 63
      go_wp2_with fail
      generalize bits BinOp.and IntKind.i64 x2 63 = s at *
      refine (hP _ _ _ _ s x0 x1 _ H0 hsb hx0 hx1).mono ?_
      rintro e w8 ⟨pa, pl, pc, ps, pe, rfl, hPs, tP, hb8⟩
      have hB8 := hBT.trans (hb8.mono hBT.size)
      replace H0 := H0.below hb8
      replace d0 := bkeep hb8 d0 rfl
      replace d1 := bkeep hb8 d1 rfl
      clear hBT hb8 hP
      rcases tP with ⟨e, hf, rfl, rfl⟩ | ⟨hf, hps, rfl⟩
      · have hne : (pe != 0) = true := by have := pkF_ne0 hf; simpa using this
        clear hf hPs H0 d0 d1 d2 hU
        go_wp2
        go_ret
        exact ⟨rfl, hB8⟩
      · obtain ⟨q1, q2, q3, q4, q5⟩ := pk_none hf
        obtain ⟨u1, u2, u3⟩ := up_of q1 q2 q3 q4 q5 ((fitB_iff x0).2 hx0) hps
        have HU := (show Hid _ from hU _ _ _ _ _ _ _ _ s _ H0 hPs hsb)
        rw [u1, u2, u3] at HU
        clear hf hps q1 q2 q3 q4 q5 u1 u2 u3 H0 hPs hU
        go_wp2_with fail
        refine Calls.mono HU.out ?_
        rintro e w9 ⟨gx, gy, ge, rfl, ⟨_, h, _⟩ | ⟨-, rfl, rfl, rfl⟩, hb9⟩
        · cases h
        · have hB9 := hB8.trans (hb9.mono hB8.size)
          replace d0 := bkeep hb9 d0 rfl
          replace d1 := bkeep hb9 d1 rfl
          clear HU hB8 hb9 d2
          go_wp2
          go_ret
          exact ⟨by simp, hB9⟩
    · obtain ⟨q1, q2, q3⟩ := cod_none hf
      obtain ⟨e1, e2⟩ := code_dc q1 q3 hxs
      have hW := IsW.self H1.digs q2
      have HD := (show Hid _ from hD _ _ _ _ _ _ _ _ _ H0 hX)
      rw [e1, e2] at HD
      clear hf hxs q1 q2 q3 e1 e2 hX hD
      go_wp2_with fail
      refine Calls.mono HD.out ?_
      rintro e w4 ⟨n', ya, yl, yc, ys, ye, rfl, hY, ⟨_, h, _⟩ | ⟨-, hyW, rfl⟩, hb4⟩
      · cases h
      · obtain ⟨rfl, rfl⟩ := hyW.unique hW
        have hA := (Below.refl w4.heap.size w4).alloc (Nat.le_refl _) (.cells #[.bool n', .slice ya yl yc] 25)
        have hbA := hb4.trans (hA.mono hb4.size)
        have hB4 := hB3.trans (hbA.mono hB3.size)
        have e0 : (w4.alloc (.cells #[.bool n', .slice ya yl yc] 25)).cell? ⟨w4.heap.size, 0, none⟩ = some (.bool n') := by simp
        have e1 : (w4.alloc (.cells #[.bool n', .slice ya yl yc] 25)).cell? ⟨w4.heap.size, 1, none⟩ = some (.slice ya yl yc) := by simp
        replace H0 := H0.below hbA
        replace c0 := bkeep hbA c0 rfl
        replace c1 := bkeep hbA c1 rfl
        replace d0 := bkeep hbA d0 rfl
        replace d1 := bkeep hbA d1 rfl
        replace d2 := bkeep hbA d2 rfl
        have HS := (show Hid _ from isame_eq _ n' _ _ _ _ _ _ _ _ (hY.below hA) (H1.below hbA) (Below.refl _ _))
        clear HD hW hyW hb4 hA hbA hB3 hY H1
        go_wp2_with fail
        refine Calls.mono HS.out ?_
        rintro e w5 ⟨rfl, hb5⟩
        have hBT := hB4.trans (hb5.mono hB4.size)
        replace H0 := H0.below hb5
        replace d0 := bkeep hb5 d0 rfl
        replace d1 := bkeep hb5 d1 rfl
        replace d2 := bkeep hb5 d2 rfl
        clear HS hB4 hb5 c0 c1 e0 e1
        have hsb := and_range7 x2 63
        go_wp2_with fail
        generalize bits BinOp.and IntKind.i64 x2 63 = s at *
        refine (hP _ _ _ _ s x0 x1 _ H0 hsb hx0 hx1).mono ?_
        rintro e w8 ⟨pa, pl, pc, ps, pe, rfl, hPs, tP, hb8⟩
        have hB8 := hBT.trans (hb8.mono hBT.size)
        replace H0 := H0.below hb8
        replace d0 := bkeep hb8 d0 rfl
        replace d1 := bkeep hb8 d1 rfl
        clear hBT hb8 hP
        rcases tP with ⟨e, hf, rfl, rfl⟩ | ⟨hf, hps, rfl⟩
        · have hne : (pe != 0) = true := by have := pkF_ne0 hf; simpa using this
          clear hf hPs H0 d0 d1 d2 hU
          go_wp2
          go_ret
          exact ⟨rfl, hB8⟩
        · obtain ⟨q1, q2, q3, q4, q5⟩ := pk_none hf
          obtain ⟨u1, u2, u3⟩ := up_of q1 q2 q3 q4 q5 ((fitB_iff x0).2 hx0) hps
          have HU := (show Hid _ from hU _ _ _ _ _ _ _ _ s _ H0 hPs hsb)
          rw [u1, u2, u3] at HU
          clear hf hps q1 q2 q3 q4 q5 u1 u2 u3 H0 hPs hU
          go_wp2_with fail
          refine Calls.mono HU.out ?_
          rintro e w9 ⟨gx, gy, ge, rfl, ⟨_, h, _⟩ | ⟨-, rfl, rfl, rfl⟩, hb9⟩
          · cases h
          · have hB9 := hB8.trans (hb9.mono hB8.size)
            replace d0 := bkeep hb9 d0 rfl
            replace d1 := bkeep hb9 d1 rfl
            clear HU hB8 hb9 d2
            go_wp2
            go_ret
            exact ⟨by simp, hB9⟩
end Go.Proofs.Ytambpcgdaogojaa

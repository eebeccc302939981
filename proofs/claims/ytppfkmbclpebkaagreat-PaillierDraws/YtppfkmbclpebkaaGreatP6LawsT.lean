/-
  The walk of stage 6's law on numbers hidden behind one from a tape.
-/
import Derived.Test.YtppfkmbclpebkaaGreatP6LawsO
import Derived.Test.YtppfkmbclpebkaaGreatRef6T
import Derived.Test.YtppfkmbclpebkaaGreatTapeC
namespace Go.Proofs.YtppfkmbclpebkaaGreat
open Go.RowKit

/-- The program hides a number behind one from a tape. -/
def DrawOk : Prop :=
  (∀ (a b : Option Addr) (la ca lb cb : Nat) (ns ms : List Int) (w : World), Nums w a la ca ns → Nums w b lb cb ms → Calls Tryz.prog 19 #[.slice a la ca, .slice b lb cb, .pointer none] w fun e w' => ∃ x l c, e = .returned (.tuple #[.slice x l c, .int .i64 (noneF ns ms)]) ∧ Nums w' x l c [] ∧ Below w.heap.size w w') ∧
  ∀ (a b : Option Addr) (la ca lb cb : Nat) (ns ms : List Int) (g : Nat) (L : List Int) (w : World), Nums w a la ca ns → Nums w b lb cb ms → TapeAt w g L → Calls Tryz.prog 19 #[.slice a la ca, .slice b lb cb, .pointer (some ⟨g, 0, none⟩)] w fun e w' => DrawT TapeAt w g ns ms L e w'
theorem grown_new6 {w w1 w2 : World} {g : Nat} (h : Below w.heap.size w w1) (hg : w.heap.size ≤ g) (k : w1.grownBy w2 (some g)) : Below w.heap.size w w2 :=
  h.grown k h.size (fun j hj => by cases hj; exact hg)

set_option maxRecDepth 20000 in
set_option maxHeartbeats 6400000 in
theorem draws_walk (hE : EncOk) (hD : DrawOk) (a0 a1 a2 : Option Addr) (len0 cap0 len1 cap1 len2 cap2 : Nat) (z0 z1 bs : List Int) (w : World) (H0 : Nums w a0 len0 cap0 z0) (H1 : Nums w a1 len1 cap1 z1) (H2 : Byts w a2 len2 cap2 bs) (hnil : a2 = none → cap2 = 0) :
    Calls Tryz.prog 4 #[.slice a0 len0 cap0, .slice a1 len1 cap1, .slice a2 len2 cap2] w fun e w' => e = .returned (.bool true) ∧ Below w.heap.size w w' := by
  have HF := (show Hid _ from pfew_two _ _ _ _ _ _ _ _ w H0 H1)
  clear H0 H1
  go_enter Tryz.func4, Tryz.ntmps4
  go_wp2_with fail
  refine Calls.mono HF.out ?_
  rintro e w1 ⟨rfl, H0, H1, hb1⟩
  have K2 := H2.below hb1
  clear HF H2
  cases hm : manyB 20 [len0, len1] with
  | false =>
    clear H0 H1 K2
    go_wp2
    go_ret
    exact ⟨rfl, hb1⟩
  | true =>
    go_wp2_with fail
    refine (awake_any hE _).mono ?_
    rintro e w2 ⟨rfl, hb2⟩
    have hB2 := hb1.trans (hb2.mono hb1.size)
    have K0 := H0.below hb2
    have K1 := H1.below hb2
    have M2 := K2.below hb2
    clear H0 H1 K2 hb1 hb2 hE
    go_wp2_with fail
    refine (tnew_any _ _ _ _ _ M2).mono ?_
    rintro e v1 ⟨hb3, ⟨hl, rfl⟩ | ⟨hl, g, rfl, hT, hg⟩⟩
    · go_wp2_with fail
      refine (rtnew_any _ _ _ _ _ (M2.below hb3) hnil).mono ?_
      rintro e v2 ⟨hb4, ⟨hl2, rfl⟩ | ⟨hl2, _⟩⟩
      · have hb34 := hb3.trans (hb4.mono hb3.size)
        have hB4 := hB2.trans (hb34.mono hB2.size)
        have O0 := K0.below hb34
        have O1 := K1.below hb34
        clear K0 K1 M2 hb3 hb4 hb34 hB2
        go_wp2_with fail
        refine (hD.1 _ _ _ _ _ _ _ _ _ O0 O1).mono ?_
        rintro e v3 ⟨xa, xl, xc, rfl, hX, hb5⟩
        have hB5 := hB4.trans (hb5.mono hB4.size)
        have Q0 := O0.below hb5
        have Q1 := O1.below hb5
        clear O0 O1 hB4 hb5 hD
        go_wp2_with fail
        refine (r6draw_nil _ _ _ _ _ _ _ _ _ Q0 Q1).mono ?_
        rintro e v4 ⟨rfl, hb6⟩
        have hB6 := hB5.trans (hb6.mono hB5.size)
        have HS := (show Hid _ from same_any _ _ _ _ _ _ _ _ _ (hX.below hb6) (Nums.nil _))
        rw [sameB_self] at HS
        clear Q0 Q1 hB5 hb6 hX
        generalize noneF z0 z1 = nf
        have hnf : (nf == nf) = true := by simp
        go_wp2_with fail
        refine Calls.mono HS.out ?_
        rintro e v5 ⟨rfl, hb7⟩
        have hB7 := hB6.trans (hb7.mono hB6.size)
        clear HS hB6 hb7
        go_wp2
        go_ret
        exact ⟨by simp, hB7⟩
      · omega
    · go_wp2_with fail
      refine (rtnew_any _ _ _ _ _ (M2.below hb3) hnil).mono ?_
      rintro e v2 ⟨hb4, ⟨hl2, rfl⟩ | ⟨-, g', rfl, hT', hg'⟩⟩
      · omega
      have hb34 := hb3.trans (hb4.mono hb3.size)
      have hB4 := hB2.trans (hb34.mono hB2.size)
      have O0 := K0.below hb34
      have O1 := K1.below hb34
      have hT2 := hT.below hb4
      have hne := hT2.other hT'
      have hg2 : w.heap.size ≤ g := Nat.le_trans hB2.size hg
      have hg3 : w.heap.size ≤ g' := Nat.le_trans hB2.size (Nat.le_trans hb3.size hg')
      clear K0 K1 M2 hb3 hb4 hb34 hB2 hT hg hg' hl
      go_wp2_with fail
      refine (hD.2 _ _ _ _ _ _ _ _ _ _ _ O0 O1 hT2).mono ?_
      rintro e v3 ⟨xa, xl, xc, xs, xe, R, rfl, hX, rX, hT3, hgr3⟩
      have hh2 := hT2.head
      have hT3' := hT'.apart hgr3 hh2 (fun e => hne e.symm)
      have Q0 := O0.head hgr3 hh2
      have Q1 := O1.head hgr3 hh2
      have hB3 := grown_new6 hB4 hg2 hgr3
      clear O0 O1 hB4 hT2 hT' hgr3 hh2 hD
      go_wp2_with fail
      refine (r6draw_any _ _ _ _ _ _ _ _ _ _ _ Q0 Q1 hT3').mono ?_
      rintro e v4 ⟨ya, yl, yc, ys, ye, S, rfl, hY, rY, hT4', hgr4⟩
      obtain ⟨rfl, rfl, rfl⟩ := rX.unique rY
      have hh3 := hT3'.head
      have hT4 := hT3.apart hgr4 hh3 hne
      have hX4 := hX.head hgr4 hh3
      have hB5 := grown_new6 hB3 hg3 hgr4
      have HS := (show Hid _ from same_any _ _ _ _ _ _ _ _ _ hX4 hY)
      rw [sameB_self] at HS
      clear Q0 Q1 hB3 hT3 hT3' hgr4 hh3 hX hX4 hY rX rY
      go_wp2_with fail
      refine Calls.mono HS.out ?_
      rintro e v5 ⟨rfl, hb7⟩
      have hB7 := hB5.trans (hb7.mono hB5.size)
      have hT5 := hT4.below hb7
      have hT5' := hT4'.below hb7
      have hxe : (xe == xe) = true := by simp
      clear HS hB5 hb7 hT4 hT4'
      go_wp2_with fail
      refine (left_any _ _ _ hT5).mono ?_
      rintro e v6 ⟨rfl, rfl⟩
      go_wp2_with fail
      refine (rleft_any _ _ _ hT5').mono ?_
      rintro e v7 ⟨rfl, hb8⟩
      have hB8 := hB7.trans (hb8.mono hB7.size)
      clear hT5 hT5' hB7 hb8
      go_wp2
      go_ret
      exact ⟨by simp, hB8⟩
end Go.Proofs.YtppfkmbclpebkaaGreat

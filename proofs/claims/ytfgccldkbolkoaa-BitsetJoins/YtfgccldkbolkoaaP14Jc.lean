/-
  BitsetJoins: its walk. Written by mk/p14laws.py.
-/
import Derived.Test.YtfgccldkbolkoaaP14Jb
namespace Go.Proofs.Ytfgccldkbolkoaa
open Go.RowKit

set_option maxRecDepth 100000 in
set_option maxHeartbeats 12800000 in
theorem joins14_walk (OA : AndOk14) (OO : OrOk14) (OM : MinOk14) (M K : Int) (a b : Option Addr) (la ca lb cb : Nat) (ws vs : List Int) (w : World) (hM : -9223372036854775808 ≤ M ∧ M < 9223372036854775808) (hK : -9223372036854775808 ≤ K ∧ K < 9223372036854775808) (hx : Nums w a la ca ws) (hy : Nums w b lb cb vs) : Calls Try.prog 4 #[.agg #[.int .i64 M, .slice a la ca], .agg #[.int .i64 K, .slice b lb cb]] w fun e w' => e = .returned (.bool true) ∧ Below w.heap.size w w' := by
  go_enter Try.func4, Try.ntmps4
  refine pcSeq (fun Q0 n0 r0 _ => bj_p0 ?_)
  have hV1 := balloc w (.cells #[.int .i64 M, .slice a la ca] 25)
  have hV2 := balloc (w.alloc (.cells #[.int .i64 M, .slice a la ca] 25)) (.cells #[.int .i64 K, .slice b lb cb] 25)
  have hV := bthen hV1 hV2
  have sa := (SetVar.new w M a la ca).below hV2
  have sb : SetVar ((w.alloc (.cells #[.int .i64 M, .slice a la ca] 25)).alloc (.cells #[.int .i64 K, .slice b lb cb] 25)) (w.heap.size + 1) K b lb cb := by
    have := SetVar.new (w.alloc (.cells #[.int .i64 M, .slice a la ca] 25)) K b lb cb
    simpa using this
  obtain ⟨V, hVe⟩ : ∃ V, V = (w.alloc (.cells #[.int .i64 M, .slice a la ca] 25)).alloc (.cells #[.int .i64 K, .slice b lb cb] 25) := ⟨_, rfl⟩
  have hsz : V.heap.size = w.heap.size + 2 := by rw [hVe]; simp
  rw [← hVe] at hV sa sb
  rw [← hVe]
  replace hx := hx.below hV
  replace hy := hy.below hV
  refine n0 _ _ (pcSeq (fun Q1 n1 r1 _ => bj_p1 sa sb hx hy ?_ ?_))
  rotate_left
  · intro w0
    intros
    rename_i b0
    exact r1 _ _ (bj_ret ⟨rfl, bthen hV b0⟩)
  intro w0
  intros
  rename_i b0
  replace hV := bthen hV b0
  have hsz0 : w.heap.size + 2 ≤ w0.heap.size := by have := b0.size; omega
  replace sa := sa.below b0
  replace sb := sb.below b0
  replace hx := hx.below b0
  replace hy := hy.below b0
  refine n1 _ _ (pcSeq (fun Q2 n2 r2 _ => bj_p3 OA hM hK sa sb hx hy ?_))
  intro N1 a1 l1 c1 u1 e1 w1
  intros
  rename_i x1 q1 b1
  have t1 := bthen b1 (balloc w1 (.cells #[.int .i64 N1, .slice a1 l1 c1] 25))
  have s1 := SetVar.new w1 N1 a1 l1 c1
  replace x1 := x1.below (balloc w1 (.cells #[.int .i64 N1, .slice a1 l1 c1] 25))
  replace hV := bthen hV t1
  replace sa := sa.below t1
  replace sb := sb.below t1
  replace hx := hx.below t1
  replace hy := hy.below t1
  refine n2 _ _ (pcSeq (fun Q3 n3 r3 _ => bj_p4 hM hK sa sb hx hy ?_))
  intro N2 a2 l2 c2 u2 e2 w2
  intros
  rename_i x2 q2 b2
  obtain ⟨rfl, rfl, rfl⟩ := q1.unique q2
  have t2 := bthen b2 (balloc w2 (.cells #[.int .i64 N1, .slice a2 l2 c2] 25))
  have s2 := SetVar.new w2 N1 a2 l2 c2
  replace x2 := x2.below (balloc w2 (.cells #[.int .i64 N1, .slice a2 l2 c2] 25))
  have g1 : w1.heap.size < w2.heap.size := Nat.lt_of_lt_of_le s1.lt b2.size
  have g0 : w.heap.size + 2 ≤ w1.heap.size := by have := b1.size; omega
  replace hV := bthen hV t2
  replace sa := sa.below t2
  replace sb := sb.below t2
  replace hx := hx.below t2
  replace hy := hy.below t2
  replace s1 := s1.below t2
  replace x1 := x1.below t2
  refine n3 _ _ (pcSeq (fun Q4 n4 r4 _ => bj_p5 s1.cells.1 s1.cells.2 s2.cells.1 s2.cells.2 x1 x2 ?_))
  intro w3
  intros
  rename_i b3
  replace hV := bthen hV b3
  replace sa := sa.below b3
  replace sb := sb.below b3
  replace hx := hx.below b3
  replace hy := hy.below b3
  replace s1 := s1.below b3
  replace s2 := s2.below b3
  clear x1 x2 q1 q2
  refine n4 _ _ (pcSeq (fun Q5 n5 r5 _ => bj_p6 ?_))
  intros
  refine n5 _ _ (pcSeq (fun Q6 n6 r6 _ => bj_p8 OO hM hK sa sb hx hy s1 ?_))
  intro N5 a5 l5 c5 u5 e5 w5
  intros
  rename_i x5 q5 b5
  replace hV := put2_below (bthen hV b5) (show w.heap.size ≤ w1.heap.size by omega) (.int .i64 N5) (.slice a5 l5 c5)
  replace sa := (sa.below b5).other (r := w1.heap.size) (by omega) (.int .i64 N5) (.slice a5 l5 c5)
  replace sb := (sb.below b5).other (r := w1.heap.size) (by omega) (.int .i64 N5) (.slice a5 l5 c5)
  replace s2 := (s2.below b5).other (r := w1.heap.size) (by omega) (.int .i64 N5) (.slice a5 l5 c5)
  replace hx := (s1.below b5).nums (hx.below b5) (.int .i64 N5) (.slice a5 l5 c5)
  replace hy := (s1.below b5).nums (hy.below b5) (.int .i64 N5) (.slice a5 l5 c5)
  replace x5 := (s1.below b5).nums x5 (.int .i64 N5) (.slice a5 l5 c5)
  replace s1 := (s1.below b5).put N5 a5 l5 c5
  refine n6 _ _ (pcSeq (fun Q7 n7 r7 _ => bj_p9 hM hK sa sb hx hy s2 ?_))
  intro N59 a59 l59 c59 u59 e59 w59
  intros
  rename_i x59 q59 b59
  obtain ⟨rfl, rfl, rfl⟩ := q5.unique q59
  replace hV := put2_below (bthen hV b59) (show w.heap.size ≤ w2.heap.size by omega) (.int .i64 N5) (.slice a59 l59 c59)
  replace sa := (sa.below b59).other (r := w2.heap.size) (by omega) (.int .i64 N5) (.slice a59 l59 c59)
  replace sb := (sb.below b59).other (r := w2.heap.size) (by omega) (.int .i64 N5) (.slice a59 l59 c59)
  replace s1 := (s1.below b59).other (r := w2.heap.size) (by omega) (.int .i64 N5) (.slice a59 l59 c59)
  replace hx := (s2.below b59).nums (hx.below b59) (.int .i64 N5) (.slice a59 l59 c59)
  replace hy := (s2.below b59).nums (hy.below b59) (.int .i64 N5) (.slice a59 l59 c59)
  replace x5 := (s2.below b59).nums (x5.below b59) (.int .i64 N5) (.slice a59 l59 c59)
  replace x59 := (s2.below b59).nums x59 (.int .i64 N5) (.slice a59 l59 c59)
  replace s2 := (s2.below b59).put N5 a59 l59 c59
  refine n7 _ _ (pcSeq (fun Q8 n8 r8 _ => bj_p10 s1.cells.1 s1.cells.2 s2.cells.1 s2.cells.2 x5 x59 ?_))
  intro v5
  intros
  rename_i d5
  replace hV := bthen hV d5
  replace sa := sa.below d5
  replace sb := sb.below d5
  replace hx := hx.below d5
  replace hy := hy.below d5
  replace s1 := s1.below d5
  replace s2 := s2.below d5
  clear x5 x59 q5 q59
  refine n8 _ _ (pcSeq (fun Q11 n11 r11 _ => bj_p11 ?_))
  intros
  refine n11 _ _ (pcSeq (fun Q12 n12 r12 _ => bj_p13 OM hM hK sa sb hx hy s1 ?_))
  intro N6 a6 l6 c6 u6 e6 w6
  intros
  rename_i x6 q6 b6
  replace hV := put2_below (bthen hV b6) (show w.heap.size ≤ w1.heap.size by omega) (.int .i64 N6) (.slice a6 l6 c6)
  replace sa := (sa.below b6).other (r := w1.heap.size) (by omega) (.int .i64 N6) (.slice a6 l6 c6)
  replace sb := (sb.below b6).other (r := w1.heap.size) (by omega) (.int .i64 N6) (.slice a6 l6 c6)
  replace s2 := (s2.below b6).other (r := w1.heap.size) (by omega) (.int .i64 N6) (.slice a6 l6 c6)
  replace hx := (s1.below b6).nums (hx.below b6) (.int .i64 N6) (.slice a6 l6 c6)
  replace hy := (s1.below b6).nums (hy.below b6) (.int .i64 N6) (.slice a6 l6 c6)
  replace x6 := (s1.below b6).nums x6 (.int .i64 N6) (.slice a6 l6 c6)
  replace s1 := (s1.below b6).put N6 a6 l6 c6
  refine n12 _ _ (pcSeq (fun Q13 n13 r13 _ => bj_p14 hM hK sa sb hx hy s2 ?_))
  intro N69 a69 l69 c69 u69 e69 w69
  intros
  rename_i x69 q69 b69
  obtain ⟨rfl, rfl, rfl⟩ := q6.unique q69
  replace hV := put2_below (bthen hV b69) (show w.heap.size ≤ w2.heap.size by omega) (.int .i64 N6) (.slice a69 l69 c69)
  replace sa := (sa.below b69).other (r := w2.heap.size) (by omega) (.int .i64 N6) (.slice a69 l69 c69)
  replace sb := (sb.below b69).other (r := w2.heap.size) (by omega) (.int .i64 N6) (.slice a69 l69 c69)
  replace s1 := (s1.below b69).other (r := w2.heap.size) (by omega) (.int .i64 N6) (.slice a69 l69 c69)
  replace hx := (s2.below b69).nums (hx.below b69) (.int .i64 N6) (.slice a69 l69 c69)
  replace hy := (s2.below b69).nums (hy.below b69) (.int .i64 N6) (.slice a69 l69 c69)
  replace x6 := (s2.below b69).nums (x6.below b69) (.int .i64 N6) (.slice a69 l69 c69)
  replace x69 := (s2.below b69).nums x69 (.int .i64 N6) (.slice a69 l69 c69)
  replace s2 := (s2.below b69).put N6 a69 l69 c69
  refine n13 _ _ (pcSeq (fun Q14 n14 r14 _ => bj_p15 s1.cells.1 s1.cells.2 s2.cells.1 s2.cells.2 x6 x69 ?_))
  intro v6
  intros
  rename_i d6
  replace hV := bthen hV d6
  replace sa := sa.below d6
  replace sb := sb.below d6
  replace hx := hx.below d6
  replace hy := hy.below d6
  replace s1 := s1.below d6
  replace s2 := s2.below d6
  clear x6 x69 q6 q69
  refine n14 _ _ (pcSeq (fun Q18 n18 r18 _ => bj_p16 OO ?_))
  intro a9 l9 c9 e9 w9
  intros
  rename_i b9
  refine n18 _ _ (bj_p17 (SetVar.new w9 1 a9 l9 c9).cells.1 ?_)
  intros
  exact bj_ret ⟨rfl, bthen hV (bthen b9 (balloc w9 (.cells #[.int .i64 1, .slice a9 l9 c9] 25)))⟩
end Go.Proofs.Ytfgccldkbolkoaa

/-
  The walk of the law on messages over a link that loses frames.
-/
import Derived.Test.YtnbdbahfekneoabP12Lk
import Derived.Deep.DeepCutAuto
namespace Go.Proofs.Ytnbdbahfekneoab
open Go.RowKit

set_option maxRecDepth 100000 in
set_option maxHeartbeats 20000000 in
theorem toplinks_walk {At : World → Nat → LS → (Nat → Prop) → Prop} (A : EndUse11 At) (n : Int) (a0 : Option Addr) (len0 cap0 : Nat) (a1 : Option Addr) (len1 cap1 : Nat) (qs : List Bool) (w : World) (hn : -9223372036854775808 ≤ n ∧ n < 9223372036854775808) (HM : MsgsIn w a0 len0) (hb0 : len0 ≤ cap0 ∧ cap0 ≤ maxLen) (HQ : BoolsIn w a1 len1 qs) (hb1 : len1 ≤ cap1 ∧ cap1 ≤ maxLen ∧ len1 ≤ 140737488355328) :
    Calls Try.prog 3 #[.int .i64 n, .slice a0 len0 cap0, .slice a1 len1 cap1] w fun e w' => e = .returned (.bool true) ∧ Below w.heap.size w w' := by
  unfold maxLen at hb0 hb1
  go_enter Try.func3, Try.ntmps3
  refine seqX (fun Q0 n0 r0 _ => lk_p0 ?_)
  refine n0 _ _ (seqX (fun Qa na ra _ => lk_p1 A hn ?_ ?_))
  · intro w1
    intros
    rename_i hw k1
    refine na _ _ (seqX (fun Qb nb rb _ => lk_p2 A hn ?_ ?_))
    · intro w2
      intros
      rename_i _ k3
      refine nb _ _ (seqX (fun Qc nc rc _ => lk_p3b hw ?_))
      intros
      exact rc _ _ (lk_ret ⟨rfl, bthen k1 k3⟩)
    · intro g T w2
      intros
      rename_i hw2 _ _ _
      rw [hw] at hw2
      cases hw2
  intro g0 T0 w1
  intros
  rename_i hw h0 k1 k2
  refine na _ _ (seqX (fun Qb nb rb _ => lk_p2 A hn ?_ ?_))
  · intro w2
    intros
    rename_i hw2 _
    rw [hw] at hw2
    cases hw2
  intro g1 T1 w2
  intros
  rename_i _ h1 k3 k4
  have hN16 : 1 ≤ n.toNat ∧ n.toNat ≤ 16 := by
    simp at hw
    omega
  have HK : K12 At w g0 g1 (LS.new n.toNat) (LS.new n.toNat) T0 T1 (fun _ => False) w2 := ⟨A.toEndKept11.below h0 k3, h1, fun b e q => by have := (A.toEndKept11.foot h0).2.1 b e; have := k4 b q; omega, fun b e => e.elim, fun b e => by
    rcases e with e | e
    · exact k2 b e
    · exact Nat.le_trans k1.size (k4 b e), bthen k1 k3⟩
  refine nb _ _ (seqX (fun Qc nc rc _ => lk_p3g ?_))
  intros
  refine nc _ _ (seqX (fun Qd nd rd _ => lk_p5 hb0.1 hb0.2 ?_))
  intro len cap
  intros
  rename_i hll hl50
  have HMl : MsgsIn w a0 len := fun i hi => HM i (by omega)
  refine nd _ _ (seqX (fun Q1 n1 r1 _ => lk_p7 ?_))
  refine n1 _ _ (seqX (fun Q2 n2 r2 _ => lk_l1 A hN16 hl50 HMl HK ?_ ?_))
  · intro v ds st Tx w3
    intros
    rename_i hd hM hS hK
    obtain ⟨av, cv, rfl, -, -⟩ := hM.slice
    refine n2 _ _ (seqX (fun Q3 n3 r3 _ => lk_p19 ?_))
    refine n3 _ _ (seqX (fun Q4 n4 r4 _ => lk_l2 A HQ hb1.2.2 hM hd hS hK ?_))
    intro y Tx2 Ty2 x w4
    intros
    rename_i hA hto hM2 hK2
    refine n4 _ _ (seqX (fun Q5 n5 r5 _ => lk_l5 A hA hto hM2 hd hS hK2 ?_ ?_))
    · intro z Tz w5
      intros
      rename_i hle hE hB hnew
      refine n5 _ _ (seqX (fun Q6 n6 r6 _ => lk_p46 A hE ?_ ?_))
      · intro w6
        intros
        rename_i hT
        obtain ⟨S, hE6⟩ := hT
        refine n6 _ _ (lk_p47 ?_)
        intros
        exact lk_ret ⟨rfl, hB.trans (hE6.2.1.below hnew hB.size)⟩
      · intro p l c Tn w6
        intros
        omega
    · intros
      rename_i hB
      exact r5 _ _ (lk_ret ⟨rfl, hB⟩)
  · intros
    rename_i hB
    exact r2 _ _ (lk_ret ⟨rfl, hB⟩)
end Go.Proofs.Ytnbdbahfekneoab

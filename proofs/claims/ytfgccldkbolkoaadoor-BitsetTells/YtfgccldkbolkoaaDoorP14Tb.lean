/-
  BitsetTells: its walk. Written by mk/p14laws.py.
-/
import Derived.Test.YtfgccldkbolkoaaDoorP14Ta
namespace Go.Proofs.YtfgccldkbolkoaaDoor
open Go.RowKit

set_option maxRecDepth 100000 in
theorem bt_ret {x0 x1 x2 x3 x5 x6 x7 x8 x9 x10 x11 x12 x13 x14 x15 x16 x17 x18 x19 x20 x21 x22 x23 x24 x25 x26 x27 x28 x29 x30 x31 x32 x33 x34 x35 x36 x37 x38 x39 x40 x41 x42 x43 x44 x45 x46 x47 : Value}  {post : Ending → World → Prop} {W : World} (h : post (.returned (.bool true)) W) : bodyPost Tryd.prog Tryd.f3 post .ret ⟨#[x0, x1, x2, x3, .bool true, x5, x6, x7, x8, x9, x10, x11, x12, x13, x14, x15, x16, x17, x18, x19, x20, x21, x22, x23, x24, x25, x26, x27, x28, x29, x30, x31, x32, x33, x34, x35, x36, x37, x38, x39, x40, x41, x42, x43, x44, x45, x46, x47], []⟩ W :=
  bodyPost_ret (v := .bool true) (by simp [results, Tryd.results3, go_sem]) rfl h

set_option maxRecDepth 100000 in
set_option maxHeartbeats 12800000 in
theorem tells14_walk (OR : RgtOk14) {T : World → Prop} (TB : ∀ w w', T w → Below w.heap.size w w' → T w') (OL : LstOk14 T) (OH : HasOk14) (OC : CntOk14) (N : Int) (a : Option Addr) (l c : Nat) (ws : List Int) (i : Int) (w : World) (hN : -9223372036854775808 ≤ N ∧ N < 9223372036854775808) (hi : -9223372036854775808 ≤ i ∧ i < 9223372036854775808) (hx : Nums w a l c ws) (hT : T w) : Calls Tryd.prog 3 #[.agg #[.int .i64 N, .slice a l c], .int .i64 i] w fun e w' => e = .returned (.bool true) ∧ Below w.heap.size w w' := by
  go_enter Tryd.func3, Tryd.ntmps3
  refine pcSeq (fun Q0 n0 r0 _ => bt_p0 ?_)
  have hV := balloc w (.cells #[.int .i64 N, .slice a l c] 24)
  have sa := SetVar.new w N a l c
  replace hx := hx.below hV
  refine n0 _ _ (pcSeq (fun Q1 n1 r1 _ => bt_p1 sa hx ?_ ?_))
  rotate_left
  · intro w0
    intros
    rename_i b0
    exact r1 _ _ (bt_ret ⟨rfl, bthen hV b0⟩)
  intro w0
  intros
  rename_i b0
  replace hV := bthen hV b0
  replace sa := sa.below b0
  replace hx := hx.below b0
  refine n1 _ _ (pcSeq (fun Q2 n2 r2 _ => bt_p3 OL (TB _ _ hT hV) hN sa hx ?_))
  intro ns p n q w1
  intros
  rename_i hn hL hRL b1
  replace hV := bthen hV b1
  replace sa := sa.below b1
  replace hx := hx.below b1
  refine n2 _ _ (pcSeq (fun Q3 n3 r3 _ => bt_p4 hN sa hx hL hRL ?_))
  intro w2
  intros
  rename_i b2
  replace hV := bthen hV b2
  replace sa := sa.below b2
  replace hx := hx.below b2
  refine n3 _ _ (pcSeq (fun Q4 n4 r4 _ => bt_p5 OH ?_))
  intro w3
  intros
  rename_i b3
  replace hV := bthen hV b3
  replace sa := sa.below b3
  replace hx := hx.below b3
  have eB : ∃ B : Bool, B = true ↔ RightS N ws := by
    by_cases c : RightS N ws
    · exact ⟨true, fun _ => c, fun _ => rfl⟩
    · exact ⟨false, fun e => (by cases e), fun e => absurd e c⟩
  have eH : ∃ H : Bool, ResHas N ws i H := by
    by_cases c : RightS N ws ∧ 0 ≤ i ∧ i < N ∧ wbit ws i.toNat = true
    · exact ⟨true, fun _ => c, fun _ => rfl⟩
    · exact ⟨false, fun e => (by cases e), fun e => absurd e c⟩
  obtain ⟨B, hB⟩ := eB
  obtain ⟨H, hH⟩ := eH
  refine n4 _ _ (pcSeq (fun Q5 n5 r5 _ => bt_p6 OR OH OC hN hi sa hx hB hH hRL hn ?_))
  intro w4
  intros
  rename_i b4
  refine n5 _ _ (wp_ret ?_)
  exact bt_ret ⟨rfl, bthen hV b4⟩
end Go.Proofs.YtfgccldkbolkoaaDoor

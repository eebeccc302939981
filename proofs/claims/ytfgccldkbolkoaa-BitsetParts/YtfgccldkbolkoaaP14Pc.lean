/-
  BitsetParts: its walk. Written by mk/p14laws.py.
-/
import Derived.Test.YtfgccldkbolkoaaP14Pb
namespace Go.Proofs.Ytfgccldkbolkoaa
open Go.RowKit

set_option maxRecDepth 100000 in
theorem bp_ret {x0 x1 x2 x3 x5 x6 x7 x8 x9 x10 x11 x12 x13 x14 x15 x16 x17 x18 x19 x20 x21 x22 x23 x24 x25 x26 x27 x28 x29 x30 x31 x32 x33 x34 x35 x36 x37 x38 x39 x40 x41 x42 x43 x44 x45 x46 x47 x48 x49 x50 x51 x52 x53 x54 x55 x56 x57 x58 x59 x60 x61 x62 x63 x64 x65 x66 x67 x68 x69 x70 x71 x72 x73 x74 x75 x76 x77 x78 x79 x80 x81 x82 x83 x84 x85 x86 x87 x88 x89 x90 x91 x92 x93 x94 x95 : Value}  {post : Ending → World → Prop} {W : World} (h : post (.returned (.bool true)) W) : bodyPost Try.prog Try.f5 post .ret ⟨#[x0, x1, x2, x3, .bool true, x5, x6, x7, x8, x9, x10, x11, x12, x13, x14, x15, x16, x17, x18, x19, x20, x21, x22, x23, x24, x25, x26, x27, x28, x29, x30, x31, x32, x33, x34, x35, x36, x37, x38, x39, x40, x41, x42, x43, x44, x45, x46, x47, x48, x49, x50, x51, x52, x53, x54, x55, x56, x57, x58, x59, x60, x61, x62, x63, x64, x65, x66, x67, x68, x69, x70, x71, x72, x73, x74, x75, x76, x77, x78, x79, x80, x81, x82, x83, x84, x85, x86, x87, x88, x89, x90, x91, x92, x93, x94, x95], []⟩ W :=
  bodyPost_ret (v := .bool true) (by simp [results, Try.results5, go_sem]) rfl h

theorem ResJoin.both {op op' : Bool → Bool → Bool} {M K N N' : Int} {ws vs us us' : List Int} {e e' : Int} (h : ResJoin op M ws K vs N us e) (k : ResJoin op' M ws K vs N' us' e') : (e = 0 ∧ e' = 0) ∨ (e = 1 ∧ e' = 1) := by
  rcases h with ⟨h0, -, -, h3⟩ | ⟨h0, -, -, h3⟩ <;> rcases k with ⟨k0, -, -, k3⟩ | ⟨k0, -, -, k3⟩
  · exact .inr ⟨h3, k3⟩
  · exact absurd k0 h0
  · exact absurd h0 k0
  · exact .inl ⟨h3, k3⟩
theorem ResJoin.ok {op : Bool → Bool → Bool} {M K N : Int} {ws vs us : List Int} {e : Int} (h : ResJoin op M ws K vs N us e) (he : e = 0) : (RightS M ws ∧ RightS K vs ∧ M = K) ∧ N = M ∧ IsSet M.toNat (fun i => op (wbit ws i) (wbit vs i)) us := by
  rcases h with ⟨-, -, -, h3⟩ | ⟨h0, h1, h2, -⟩
  · omega
  · exact ⟨h0, h1, h2⟩
theorem ResJoin.yes {op : Bool → Bool → Bool} {M N : Int} {ws vs us : List Int} {e : Int} (h : ResJoin op M ws M vs N us e) (h1 : RightS M ws) (h2 : RightS M vs) : e = 0 ∧ N = M ∧ IsSet M.toNat (fun i => op (wbit ws i) (wbit vs i)) us := by
  rcases h with ⟨h0, -⟩ | ⟨-, k1, k2, k3⟩
  · exact absurd ⟨h1, h2, rfl⟩ h0
  · exact ⟨k3, k1, k2⟩
theorem IsSet.rightI {M : Int} {f : Nat → Bool} {ws : List Int} (h : IsSet M.toNat f ws) (h0 : 0 ≤ M) (h1 : M ≤ 65536) : RightS M ws := by
  have := h.right (by omega)
  rw [show ((M.toNat : Nat) : Int) = M by omega] at this
  exact this
theorem IsSet.list {M : Int} {f : Nat → Bool} {ws : List Int} (h : IsSet M.toNat f ws) (h0 : 0 ≤ M) (h1 : M ≤ 65536) {ns : List Nat} (hl : ResList M ws ns) : ns = numsOfS M.toNat f := by
  rcases hl with ⟨-, e⟩ | ⟨e, -⟩
  · rw [e]
    exact numsOfS_congr (fun i hi => h.at hi)
  · exact absurd (h.rightI h0 h1) e
set_option maxRecDepth 100000 in
set_option maxHeartbeats 12800000 in
theorem parts14_walk (OF : OfOk14) (OA : AndOk14) (OO : OrOk14) (OM : MinOk14) (OC : CntOk14) (M K : Int) (a b : Option Addr) (la ca lb cb : Nat) (ws vs : List Int) (w : World) (hM : -9223372036854775808 ≤ M ∧ M < 9223372036854775808) (hK : -9223372036854775808 ≤ K ∧ K < 9223372036854775808) (hx : Nums w a la ca ws) (hy : Nums w b lb cb vs) : Calls Try.prog 5 #[.agg #[.int .i64 M, .slice a la ca], .agg #[.int .i64 K, .slice b lb cb]] w fun e w' => e = .returned (.bool true) ∧ Below w.heap.size w w' := by
  go_enter Try.func5, Try.ntmps5
  refine pcSeq (fun Q0 n0 r0 _ => bp_p0 ?_)
  have hV1 := balloc w (.cells #[.int .i64 M, .slice a la ca] 25)
  have hV2 := balloc (w.alloc (.cells #[.int .i64 M, .slice a la ca] 25)) (.cells #[.int .i64 K, .slice b lb cb] 25)
  have hV := bthen hV1 hV2
  have sa := (SetVar.new w M a la ca).below hV2
  have sb : SetVar ((w.alloc (.cells #[.int .i64 M, .slice a la ca] 25)).alloc (.cells #[.int .i64 K, .slice b lb cb] 25)) (w.heap.size + 1) K b lb cb := by
    have := SetVar.new (w.alloc (.cells #[.int .i64 M, .slice a la ca] 25)) K b lb cb
    simpa using this
  obtain ⟨V, hVe⟩ : ∃ V, V = (w.alloc (.cells #[.int .i64 M, .slice a la ca] 25)).alloc (.cells #[.int .i64 K, .slice b lb cb] 25) := ⟨_, rfl⟩
  rw [← hVe] at hV sa sb
  rw [← hVe]
  replace hx := hx.below hV
  replace hy := hy.below hV
  refine n0 _ _ (pcSeq (fun Q1 n1 r1 _ => bp_p1 sa sb hx hy ?_ ?_))
  rotate_left
  · intro w0
    intros
    rename_i b0
    exact r1 _ _ (bp_ret ⟨rfl, bthen hV b0⟩)
  intro w0
  intros
  rename_i b0
  replace hV := bthen hV b0
  replace sa := sa.below b0
  replace sb := sb.below b0
  replace hx := hx.below b0
  replace hy := hy.below b0
  refine n1 _ _ (pcSeq (fun Q2 n2 r2 _ => bp_p3 OF ?_))
  intro a2 l2 c2 e2 w2
  intros
  rename_i b2
  have t2 := bthen b2 (balloc w2 (.cells #[.int .i64 1, .slice a2 l2 c2] 25))
  have s2 := SetVar.new w2 1 a2 l2 c2
  replace hV := bthen hV t2
  replace sa := sa.below t2
  replace sb := sb.below t2
  replace hx := hx.below t2
  replace hy := hy.below t2
  refine n2 _ _ (pcSeq (fun Q3 n3 r3 _ => bp_p4 OA hM hK sa sb hx hy ?_))
  intro N1 a1 l1 c1 u1 e1 w1
  intros
  rename_i x1 q1 b1
  have v1 := balloc w1 (.cells #[.int .i64 N1, .slice a1 l1 c1] 25)
  have t1 := bthen b1 v1
  have s1 := SetVar.new w1 N1 a1 l1 c1
  replace x1 := x1.below v1
  replace hV := bthen hV t1
  replace sa := sa.below t1
  replace sb := sb.below t1
  replace s2 := s2.below t1
  replace hx := hx.below t1
  replace hy := hy.below t1
  refine n3 _ _ (pcSeq (fun Q4 n4 r4 _ => bp_p5 OM hM hK sa sb hx hy ?_))
  intro N3 a3 l3 c3 u3 e3 w3
  intros
  rename_i x3 q3 b3
  have v3 := balloc w3 (.cells #[.int .i64 N3, .slice a3 l3 c3] 25)
  have t3 := bthen b3 v3
  have s3 := SetVar.new w3 N3 a3 l3 c3
  replace x3 := x3.below v3
  replace hV := bthen hV t3
  replace sa := sa.below t3
  replace s1 := s1.below t3
  replace s2 := s2.below t3
  replace hx := hx.below t3
  replace x1 := x1.below t3
  refine n4 _ _ (pcSeq (fun Q5 n5 r5 _ => bp_p6 s2.cells.1 (q1.both q3) ?_ ?_))
  rotate_left
  · intros
    exact r5 _ _ (bp_ret ⟨rfl, hV⟩)
  intros
  rename_i z1 z3
  obtain ⟨⟨hR1, hR2, rfl⟩, rfl, i1⟩ := q1.ok z1
  obtain ⟨-, rfl, i3⟩ := q3.ok z3
  have lo := hR1.lo
  have hi := hR1.hi
  have k1 := i1.rightI lo hi
  have k3 := i3.rightI lo hi
  have iw := hR1.set hx.word
  refine n5 _ _ (pcSeq (fun Q6 n6 r6 _ => bp_p8 OA hM hM s1 s3 x1 x3 ?_))
  intro N4 a4 l4 c4 u4 e4 w4
  intros
  rename_i x4 q4 b4
  have v4 := balloc w4 (.cells #[.int .i64 N4, .slice a4 l4 c4] 25)
  have t4 := bthen b4 v4
  have s4 := SetVar.new w4 N4 a4 l4 c4
  replace x4 := x4.below v4
  replace hV := bthen hV t4
  replace sa := sa.below t4
  replace s1 := s1.below t4
  replace s3 := s3.below t4
  replace hx := hx.below t4
  replace x1 := x1.below t4
  replace x3 := x3.below t4
  obtain ⟨rfl, rfl, i4⟩ := q4.yes k1 k3
  refine n6 _ _ (pcSeq (fun Q7 n7 r7 _ => bp_p9 OO hM hM s1 s3 x1 x3 ?_))
  intro N5 a5 l5 c5 u5 e5 w5
  intros
  rename_i x5 q5 b5
  have v5 := balloc w5 (.cells #[.int .i64 N5, .slice a5 l5 c5] 25)
  have t5 := bthen b5 v5
  have s5 := SetVar.new w5 N5 a5 l5 c5
  replace x5 := x5.below v5
  replace hV := bthen hV t5
  replace sa := sa.below t5
  replace s1 := s1.below t5
  replace s3 := s3.below t5
  replace s4 := s4.below t5
  replace hx := hx.below t5
  replace x1 := x1.below t5
  replace x3 := x3.below t5
  replace x4 := x4.below t5
  obtain ⟨rfl, rfl, i5⟩ := q5.yes k1 k3
  obtain rfl : u5 = ws := (i5.congr (fun i hi => by
    rw [i1.at hi, i3.at hi]
    cases wbit ws i <;> cases wbit vs i <;> rfl)).unique iw
  refine n7 _ _ (pcSeq (fun Q8 n8 r8 _ => bp_p10 s5.cells.1 s5.cells.2 sa.cells.1 sa.cells.2 x5 hx ?_))
  intro w6
  intros
  rename_i b6
  have hcp := count_parts N5.toNat (wbit u5) (wbit vs)
  have hl1 := numsOfS_len N5.toNat (fun i => wbit u5 i && wbit vs i)
  have hl3 := numsOfS_len N5.toNat (fun i => wbit u5 i && !wbit vs i)
  refine n8 _ _ (pcSeq (fun Q9 n9 r9 _ => bp_p11 OC (n1 := (numsOfS N5.toNat (fun i => wbit u5 i && wbit vs i)).length) (n2 := (numsOfS N5.toNat (fun i => wbit u5 i && !wbit vs i)).length) (n3 := (numsOfS N5.toNat (wbit u5)).length) (s4.below b6) (x4.below b6) hM (fun ns h => by
    rw [i4.list lo hi h, show numsOfS N5.toNat (fun i => wbit u1 i && wbit u3 i) = numsOfS N5.toNat (fun _ => false) from numsOfS_congr (fun i hi => by
      rw [i1.at hi, i3.at hi]
      cases wbit u5 i <;> cases wbit vs i <;> rfl)]
    simp [numsOfS]) (s1.below b6) (x1.below b6) hM (fun ns h => by rw [i1.list lo hi h]) (s3.below b6) (x3.below b6) hM (fun ns h => by rw [i3.list lo hi h]) (sa.below b6) (hx.below b6) hM (fun ns h => by rw [iw.list lo hi h]) (by omega) (by omega) (by omega) ?_))
  intro w7
  intros
  rename_i b7
  refine n9 _ _ (wp_ret ?_)
  exact bp_ret ⟨rfl, bthen hV (bthen b6 b7)⟩
end Go.Proofs.Ytfgccldkbolkoaa

/-
  The document's Weight. Written by mk/r16w.py.
-/
import Derived.Test.YtpeefhkadeoioaaRef16C
import Derived.Test.YtpeefhkadeoioaaModR
namespace Go.Proofs.Ytpeefhkadeoioaa
open Go.RowKit

set_option maxRecDepth 100000 in
set_option maxHeartbeats 12800000 in
theorem wt_p7 {x0 x1 x2 x3 x4 x5 x6 x7 x9 x11 x12 x13 x14 x15 x16 x17 x18 x19 x20 x21 x22 x23 x24 x25 x26 x27 x28 x29 x30 x31 x32 x33 x34 x35 x36 x37 x38 x39 x40 x41 x42 x43 x44 x45 x46 x47 x48 x49 x50 x51 x52 x53 x54 x55 x56 x57 x58 x59 x60 x61 x62 x63 : Value} {Q : Exit → Act → World → Prop} {W : World} {f h : Nat} {X Y : Int} (hf : Fac W f X) (hh : Fac W h Y) (hY : 0 < Y) (hX : ((X.natAbs : Nat) : Int) < 18446744073709551616 ^ 63)
    (hN : ∀ (s : Nat) (wx : World) (y13 y14 y51 y52 y53 y54 y55 y56 y57 : Value), Fac wx s (X / Y) → Below W.heap.size W wx → Q .normal ⟨#[x0, x1, x2, x3, x4, x5, x6, x7, .pointer (some ⟨f, 0, none⟩), x9, .pointer (some ⟨h, 0, none⟩), x11, .pointer (some ⟨s, 0, none⟩), y13, y14, x15, x16, x17, x18, x19, x20, x21, x22, x23, x24, x25, x26, x27, x28, x29, x30, x31, x32, x33, x34, x35, x36, x37, x38, x39, x40, x41, x42, x43, x44, x45, x46, x47, x48, x49, x50, y51, y52, y53, y54, y55, y56, y57, x58, x59, x60, x61, x62, x63], []⟩ wx) :
    Code.wp Try.prog ((Try.f14.body.bind (pcAt 7)).getD .skip) Q ⟨#[x0, x1, x2, x3, x4, x5, x6, x7, .pointer (some ⟨f, 0, none⟩), x9, .pointer (some ⟨h, 0, none⟩), x11, x12, x13, x14, x15, x16, x17, x18, x19, x20, x21, x22, x23, x24, x25, x26, x27, x28, x29, x30, x31, x32, x33, x34, x35, x36, x37, x38, x39, x40, x41, x42, x43, x44, x45, x46, x47, x48, x49, x50, x51, x52, x53, x54, x55, x56, x57, x58, x59, x60, x61, x62, x63], []⟩ W := by
  conv => arg 2; whnf
  have HN : Hid (∀ (s : Nat) (wx : World) (y13 y14 y51 y52 y53 y54 y55 y56 y57 : Value), Fac wx s (X / Y) → Below W.heap.size W wx → Q .normal ⟨#[x0, x1, x2, x3, x4, x5, x6, x7, .pointer (some ⟨f, 0, none⟩), x9, .pointer (some ⟨h, 0, none⟩), x11, .pointer (some ⟨s, 0, none⟩), y13, y14, x15, x16, x17, x18, x19, x20, x21, x22, x23, x24, x25, x26, x27, x28, x29, x30, x31, x32, x33, x34, x35, x36, x37, x38, x39, x40, x41, x42, x43, x44, x45, x46, x47, x48, x49, x50, y51, y52, y53, y54, y55, y56, y57, x58, x59, x60, x61, x62, x63], []⟩ wx) := hN
  clear hN
  obtain ⟨n1, a1, l1, k1, L1, ⟨c0, c1⟩, -, hn1, hr1, hv1⟩ := hf
  obtain ⟨n2, a2, l2, k2, L2, ⟨d0, d1⟩, -, hn2, hr2, hv2⟩ := hh
  have HW : Hid (IsW n1 L1 X ∧ IsW n2 L2 Y ∧ 0 < Y ∧ ((X.natAbs : Nat) : Int) < 18446744073709551616 ^ 63) := ⟨⟨hn1.digs, hr1, hv1⟩, ⟨hn2.digs, hr2, hv2⟩, hY, hX⟩
  have HC := (show Hid _ from refIFloor_any n1 n2 a1 a2 l1 k1 l2 k2 L1 L2 W hn1 hn2)
  clear hn1 hr1 hv1 hn2 hr2 hv2 hY hX
  go_wp2_with fail
  refine Calls.mono HC.out ?_
  rintro e wx ⟨p, qa, ql, qk, qs, r, ra, rl, rk, rs, err, rfl, ⟨hq, hr⟩, hres, hb⟩
  obtain ⟨rfl, hqW, -⟩ := floor_isW HW.out.1 HW.out.2.1 HW.out.2.2.1 HW.out.2.2.2 hres
  have HT : Hid (Nums wx qa ql qk qs ∧ IsW p qs (X / Y) ∧ Below W.heap.size W wx) := ⟨hq, hqW, hb⟩
  clear HC HW hq hr hres hb hqW c0 c1 d0 d1
  dsimp only
  go_wp2_with fail
  exact HN.out _ _ _ _ _ _ _ _ _ _ _ ((fac_alloc HT.out.1 HT.out.2.1.2.1 HT.out.2.1.2.2).below (balloc _ _)) (bthen (bgrowD HT.out.2.2 _) (balloc _ _))

set_option maxRecDepth 100000 in
set_option maxHeartbeats 12800000 in
theorem wt_p8 {x0 x1 x2 x3 x4 x5 x6 x7 x8 x9 x10 x11 x13 x14 x15 x16 x17 x18 x19 x20 x21 x22 x23 x24 x25 x26 x27 x28 x29 x30 x31 x32 x33 x34 x35 x36 x37 x38 x39 x40 x41 x42 x43 x44 x45 x46 x47 x48 x49 x50 x51 x52 x53 x54 x55 x56 x57 x58 x59 x60 x61 x62 x63 : Value} {Q : Exit → Act → World → Prop} {W : World} {s : Nat} {Z : Int} (hs : Fac W s Z) (hZ : -1099511627776 ≤ Z ∧ Z ≤ 1099511627776)
    (hN : ∀ (wx : World) (y16 y58 y59 y60 y61 y62 : Value), Below W.heap.size W wx → Q .normal ⟨#[x0, x1, x2, x3, x4, x5, x6, x7, x8, x9, x10, x11, .pointer (some ⟨s, 0, none⟩), x13, x14, .int .i64 Z, y16, x17, x18, x19, x20, x21, x22, x23, x24, x25, x26, x27, x28, x29, x30, x31, x32, x33, x34, x35, x36, x37, x38, x39, x40, x41, x42, x43, x44, x45, x46, x47, x48, x49, x50, x51, x52, x53, x54, x55, x56, x57, y58, y59, y60, y61, y62, x63], []⟩ wx) :
    Code.wp Try.prog ((Try.f14.body.bind (pcAt 8)).getD .skip) Q ⟨#[x0, x1, x2, x3, x4, x5, x6, x7, x8, x9, x10, x11, .pointer (some ⟨s, 0, none⟩), x13, x14, x15, x16, x17, x18, x19, x20, x21, x22, x23, x24, x25, x26, x27, x28, x29, x30, x31, x32, x33, x34, x35, x36, x37, x38, x39, x40, x41, x42, x43, x44, x45, x46, x47, x48, x49, x50, x51, x52, x53, x54, x55, x56, x57, x58, x59, x60, x61, x62, x63], []⟩ W := by
  conv => arg 2; whnf
  have HN : Hid (∀ (wx : World) (y16 y58 y59 y60 y61 y62 : Value), Below W.heap.size W wx → Q .normal ⟨#[x0, x1, x2, x3, x4, x5, x6, x7, x8, x9, x10, x11, .pointer (some ⟨s, 0, none⟩), x13, x14, .int .i64 Z, y16, x17, x18, x19, x20, x21, x22, x23, x24, x25, x26, x27, x28, x29, x30, x31, x32, x33, x34, x35, x36, x37, x38, x39, x40, x41, x42, x43, x44, x45, x46, x47, x48, x49, x50, x51, x52, x53, x54, x55, x56, x57, y58, y59, y60, y61, y62, x63], []⟩ wx) := hN
  clear hN
  obtain ⟨n1, a1, l1, k1, L1, ⟨c0, c1⟩, -, hn1, hr1, hv1⟩ := hs
  have hW : IsW n1 L1 Z := ⟨hn1.digs, hr1, hv1⟩
  have hz := hW.small.2 (by unfold fitB; simp; omega)
  have HC := (show Hid _ from refISmall_any n1 a1 l1 k1 L1 W hn1)
  rw [hz] at HC
  clear hn1 hr1 hv1 hW hz hZ
  go_wp2_with fail
  refine Calls.mono HC.out ?_
  rintro e wx ⟨rfl, hb⟩
  have HT : Hid (Below W.heap.size W wx) := hb
  clear HC hb c0 c1
  dsimp only
  go_wp2_with fail
  exact HN.out wx _ _ _ _ _ _ HT.out

set_option maxRecDepth 100000 in
set_option maxHeartbeats 12800000 in
theorem wt_p9 {x0 x1 x2 x3 x4 x5 x6 x7 x8 x9 x10 x11 x12 x13 x14 x16 x17 x18 x19 x20 x21 x22 x23 x24 x25 x26 x27 x28 x29 x30 x31 x32 x33 x34 x35 x36 x37 x38 x39 x40 x41 x42 x43 x44 x45 x46 x47 x48 x49 x50 x51 x52 x53 x54 x55 x56 x57 x58 x59 x60 x61 x62 x63 : Value} {Q : Exit → Act → World → Prop} {W : World} {Z : Int} (hZ : -1099511627776 ≤ Z ∧ Z ≤ 1099511627776)
    (hN : ∀ (y63 : Value), Q .normal ⟨#[x0, x1, x2, x3, .int .i64 Z, .int .i64 0, x6, x7, x8, x9, x10, x11, x12, x13, x14, .int .i64 Z, x16, x17, x18, x19, x20, x21, x22, x23, x24, x25, x26, x27, x28, x29, x30, x31, x32, x33, x34, x35, x36, x37, x38, x39, x40, x41, x42, x43, x44, x45, x46, x47, x48, x49, x50, x51, x52, x53, x54, x55, x56, x57, x58, x59, x60, x61, x62, y63], []⟩ W) :
    Code.wp Try.prog ((Try.f14.body.bind (pcAt 9)).getD .skip) Q ⟨#[x0, x1, x2, x3, x4, x5, x6, x7, x8, x9, x10, x11, x12, x13, x14, .int .i64 Z, x16, x17, x18, x19, x20, x21, x22, x23, x24, x25, x26, x27, x28, x29, x30, x31, x32, x33, x34, x35, x36, x37, x38, x39, x40, x41, x42, x43, x44, x45, x46, x47, x48, x49, x50, x51, x52, x53, x54, x55, x56, x57, x58, x59, x60, x61, x62, x63], []⟩ W := by
  conv => arg 2; whnf
  have HN : Hid (∀ (y63 : Value), Q .normal ⟨#[x0, x1, x2, x3, .int .i64 Z, .int .i64 0, x6, x7, x8, x9, x10, x11, x12, x13, x14, .int .i64 Z, x16, x17, x18, x19, x20, x21, x22, x23, x24, x25, x26, x27, x28, x29, x30, x31, x32, x33, x34, x35, x36, x37, x38, x39, x40, x41, x42, x43, x44, x45, x46, x47, x48, x49, x50, x51, x52, x53, x54, x55, x56, x57, x58, x59, x60, x61, x62, y63], []⟩ W) := hN
  clear hN
  have hw : IntKind.i64.wrap Z = Z := by rw [IntKind.wrap_i64]; omega
  clear hZ
  go_wp2_with fail
  exact HN.out  _ 

set_option maxRecDepth 100000 in
theorem wt_ret {x0 x1 x2 x3 x6 x7 x8 x9 x10 x11 x12 x13 x14 x15 x16 x17 x18 x19 x20 x21 x22 x23 x24 x25 x26 x27 x28 x29 x30 x31 x32 x33 x34 x35 x36 x37 x38 x39 x40 x41 x42 x43 x44 x45 x46 x47 x48 x49 x50 x51 x52 x53 x54 x55 x56 x57 x58 x59 x60 x61 x62 x63 : Value} {z err : Int} {post : Ending → World → Prop} {W : World} (h : post (.returned (.tuple #[.int .i64 z, .int .i64 err])) W) : bodyPost Try.prog Try.f14 post .ret ⟨#[x0, x1, x2, x3, .int .i64 z, .int .i64 err, x6, x7, x8, x9, x10, x11, x12, x13, x14, x15, x16, x17, x18, x19, x20, x21, x22, x23, x24, x25, x26, x27, x28, x29, x30, x31, x32, x33, x34, x35, x36, x37, x38, x39, x40, x41, x42, x43, x44, x45, x46, x47, x48, x49, x50, x51, x52, x53, x54, x55, x56, x57, x58, x59, x60, x61, x62, x63], []⟩ W :=
  bodyPost_ret (v := .tuple #[.int .i64 z, .int .i64 err]) (by simp [results, Try.results14, go_sem]) rfl h
def WeightT16 (c : Cfg) (G H : Int) (w : World) (e : Ending) (w' : World) : Prop := ∃ z err, e = .returned (.tuple #[.int .i64 z, .int .i64 err]) ∧ ResWeight c G H z err ∧ Below w.heap.size w w'

set_option maxRecDepth 100000 in
set_option maxHeartbeats 12800000 in
theorem r16weight_any (c : Cfg) (G H : Int) (w : World) : Calls Try.prog 14 #[.agg #[.int .i64 c.T, .int .i64 c.D, .int .i64 c.L, .int .i64 c.G, .int .i64 c.N, .int .i64 c.E, .int .i64 c.S, .int .i64 c.C], .agg #[.int .i64 G, .int .i64 H]] w fun e w' => WeightT16 c G H w e w' := by
  go_enter Try.func14, Try.ntmps14
  refine pcSeq (fun Q0 n0 r0 _ => wt_p0 ?_)
  have hV1 := balloc w (.cells #[.int .i64 c.T, .int .i64 c.D, .int .i64 c.L, .int .i64 c.G, .int .i64 c.N, .int .i64 c.E, .int .i64 c.S, .int .i64 c.C] 23)
  have hV2 := balloc (w.alloc (.cells #[.int .i64 c.T, .int .i64 c.D, .int .i64 c.L, .int .i64 c.G, .int .i64 c.N, .int .i64 c.E, .int .i64 c.S, .int .i64 c.C] 23)) (.cells #[.int .i64 G, .int .i64 H] 31)
  have hV := bthen hV1 hV2
  have hv := (CVar.new w c).below hV2
  have hs : SVar ((w.alloc (.cells #[.int .i64 c.T, .int .i64 c.D, .int .i64 c.L, .int .i64 c.G, .int .i64 c.N, .int .i64 c.E, .int .i64 c.S, .int .i64 c.C] 23)).alloc (.cells #[.int .i64 G, .int .i64 H] 31)) (w.heap.size + 1) G H := by
    have := heap_alloc_new (w.alloc (.cells #[.int .i64 c.T, .int .i64 c.D, .int .i64 c.L, .int .i64 c.G, .int .i64 c.N, .int .i64 c.E, .int .i64 c.S, .int .i64 c.C] 23)) (.cells #[.int .i64 G, .int .i64 H] 31)
    rw [show (w.alloc (.cells #[.int .i64 c.T, .int .i64 c.D, .int .i64 c.L, .int .i64 c.G, .int .i64 c.N, .int .i64 c.E, .int .i64 c.S, .int .i64 c.C] 23)).heap.size = w.heap.size + 1 by simp] at this
    exact this
  refine n0 _ _ (pcSeq (fun Q1 n1 r1 _ => wt_p1 hv ?_))
  intro z w1
  intros
  rename_i hz b1
  replace hV := bthen hV b1
  replace hv := hv.below b1
  replace hs := hs.below b1
  refine n1 _ _ (pcSeq (fun Q2 n2 r2 _ => wt_p2 hs ?_))
  intro y w2
  intros
  rename_i hy b2
  replace hV := bthen hV b2
  replace hv := hv.below b2
  replace hs := hs.below b2
  refine n2 _ _ (pcSeq (fun Q3 n3 r3 _ => wt_p3 ?_ ?_))
  rotate_left
  · intros
    rename_i hno
    exact r3 _ _ (wt_ret ⟨0, 1, rfl, .inl ⟨fun e => hno ⟨hz.2 e.1, hy.2 e.2⟩, rfl, rfl⟩, hV⟩)
  intros
  rename_i z1 y1
  have hok := hz.1 z1
  have hsm := hy.1 y1
  have hnum := num_size hok hsm
  have hden := den_pos16 hok hsm
  have hwt := weightV_small hok hsm
  refine n3 _ _ (pcSeq (fun Q4 n4 r4 _ => wt_p5 hv hs hok hsm ?_))
  intro f w3
  intros
  rename_i hf b3
  replace hV := bthen hV b3
  replace hv := hv.below b3
  replace hs := hs.below b3
  refine n4 _ _ (pcSeq (fun Q5 n5 r5 _ => wt_p6 hv hs hok hsm ?_))
  intro h w4
  intros
  rename_i hh b4
  replace hV := bthen hV b4
  replace hf := hf.below b4
  refine n5 _ _ (pcSeq (fun Q6 n6 r6 _ => wt_p7 hf hh hden.2.1 (Int.lt_of_le_of_lt (show (((-G * c.N).natAbs : Nat) : Int) ≤ 1152921504606846976 by omega) (by decide)) ?_))
  intro q w5
  intros
  rename_i hq b5
  replace hV := bthen hV b5
  refine n6 _ _ (pcSeq (fun Q7 n7 r7 _ => wt_p8 hq hwt ?_))
  intro w6
  intros
  rename_i b6
  refine n7 _ _ (pcSeq (fun Q8 n8 r8 _ => wt_p9 hwt ?_))
  intros
  refine n8 _ _ (wp_ret ?_)
  exact wt_ret ⟨_, 0, rfl, .inr ⟨⟨hok, hsm⟩, rfl, rfl⟩, bthen hV b6⟩
end Go.Proofs.Ytpeefhkadeoioaa

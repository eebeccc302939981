/-
  TopLinks: what is got. Written by mk/p12l.py.
-/
import Derived.Test.YtnbdbahfekneoabP12Li
namespace Go.Proofs.Ytnbdbahfekneoab
open Go.RowKit

set_option maxRecDepth 100000 in
set_option maxHeartbeats 12800000 in
theorem lk_l5 {x0 x1 x3 x4 x5 x6 x7 x8 x10 x12 x13 x14 x15 x16 x17 x18 x19 x20 x21 x22 x23 x24 x25 x26 x27 x28 x29 x30 x31 x32 x33 x34 x35 x36 x37 x38 x39 x40 x41 x42 x43 x44 x45 x46 x47 x48 x49 x50 x51 x52 x53 x54 x55 x56 x57 x58 x59 x60 x61 x62 x63 x64 x65 x66 x67 x68 x69 x70 x71 x72 x73 x74 x75 x76 x77 x78 x79 x80 x81 x82 x83 x84 x85 x86 x87 x88 x89 x90 x91 x92 x93 x94 x95 x96 x97 x98 x99 x100 x101 x102 x103 x104 x105 x106 x107 x108 x109 x110 x111 x112 x113 x114 x115 x116 x117 x118 x119 x120 x121 x122 x123 x124 x125 x126 x127 x128 x129 x130 x131 x132 x133 x134 x135 x136 x137 x138 x139 x140 x141 x142 x143 x144 x145 x146 x147 x148 x149 x150 x151 x152 x153 x154 x155 x156 x157 x158 x159 x160 x161 x162 x163 x164 x165 x166 x167 x168 x169 x170 x171 x172 x173 x174 x175 x176 x177 x178 x179 x180 x181 x182 x183 x184 x185 x186 x187 x188 x189 x190 x191 x192 x193 x194 x195 x196 x197 x198 x199 x200 x201 x202 x203 x204 x205 x206 x207 x208 x209 x210 x211 x212 x213 x214 x215 x216 x217 x218 x219 x220 x221 x222 x223 x224 x225 x226 x227 x228 x229 x230 x231 x232 x233 : Value} {Q : Exit → Act → World → Prop} {At : World → Nat → LS → (Nat → Prop) → Prop} {w W : World} {g0 g1 N : Nat} {a1 : Option Addr} {len1 cap1 : Nat} {av : Option Addr} {nd cv : Nat} {ds : List MD} {st x y : LS} {Tx Ty : Nat → Prop} (A : EndUse11 At) (hA : y.all = st.took.take y.all.length ∧ y.all.length ≤ st.took.length ∧ (y.all.length = st.took.length ∨ 500 < len1)) (hto : y.told = 0) (hM : MRow W w.heap.size (.slice av nd cv) ds) (hd : ds.length ≤ 50) (hS : SentOk w N ds st) (hK : K12 At w g0 g1 x y Tx Ty (fun b => (Value.slice av nd cv).ownBlock = some b) W)
    (hN : ∀ (z : LS) (Tz : Nat → Prop) (wx : World) (y6 y21 y22 y23 y24 y25 y26 y192 y193 y194 y195 y196 y197 y198 y199 y200 y201 y202 y203 y204 y205 y206 y207 y208 y209 y210 y211 y212 y213 y214 y215 y216 y217 y218 y219 y220 y221 y222 y223 y224 y225 y226 : Value), z.all.length ≤ z.told → At wx g1 z Tz → Below w.heap.size w wx → (∀ b, Tz b → w.heap.size ≤ b) → Q .normal ⟨#[x0, x1, .slice a1 len1 cap1, x3, x4, x5, y6, x7, x8, .pointer (some ⟨g1, 0, none⟩), x10, .slice av nd cv, x12, x13, x14, x15, x16, x17, x18, x19, x20, y21, y22, y23, y24, y25, y26, x27, x28, x29, x30, x31, x32, x33, x34, x35, x36, x37, x38, x39, x40, x41, x42, x43, x44, x45, x46, x47, x48, x49, x50, x51, x52, x53, x54, x55, x56, x57, x58, x59, x60, x61, x62, x63, x64, x65, x66, x67, x68, x69, x70, x71, x72, x73, x74, x75, x76, x77, x78, x79, x80, x81, x82, x83, x84, x85, x86, x87, x88, x89, x90, x91, x92, x93, x94, x95, x96, x97, x98, x99, x100, x101, x102, x103, x104, x105, x106, x107, x108, x109, x110, x111, x112, x113, x114, x115, x116, x117, x118, x119, x120, x121, x122, x123, x124, x125, x126, x127, x128, x129, x130, x131, x132, x133, x134, x135, x136, x137, x138, x139, x140, x141, x142, x143, x144, x145, x146, x147, x148, x149, x150, x151, x152, x153, x154, x155, x156, x157, x158, x159, x160, x161, x162, x163, x164, x165, x166, x167, x168, x169, x170, x171, x172, x173, x174, x175, x176, x177, x178, x179, x180, x181, x182, x183, x184, x185, x186, x187, x188, x189, x190, x191, y192, y193, y194, y195, y196, y197, y198, y199, y200, y201, y202, y203, y204, y205, y206, y207, y208, y209, y210, y211, y212, y213, y214, y215, y216, y217, y218, y219, y220, y221, y222, y223, y224, y225, y226, x227, x228, x229, x230, x231, x232, x233], []⟩ wx)
    (hR : ∀ (wx : World) (y21 y22 y23 y24 y25 y26 y192 y193 y194 y195 y196 y197 y198 y199 y200 y201 y202 y203 y204 y205 y206 y207 y208 y209 y210 y211 y212 y213 y214 y215 y216 y217 y218 y219 y220 y221 y222 y223 y224 y225 y226 : Value), Below w.heap.size w wx → Q .ret ⟨#[x0, x1, .slice a1 len1 cap1, x3, x4, x5, .bool true, x7, x8, .pointer (some ⟨g1, 0, none⟩), x10, .slice av nd cv, x12, x13, x14, x15, x16, x17, x18, x19, x20, y21, y22, y23, y24, y25, y26, x27, x28, x29, x30, x31, x32, x33, x34, x35, x36, x37, x38, x39, x40, x41, x42, x43, x44, x45, x46, x47, x48, x49, x50, x51, x52, x53, x54, x55, x56, x57, x58, x59, x60, x61, x62, x63, x64, x65, x66, x67, x68, x69, x70, x71, x72, x73, x74, x75, x76, x77, x78, x79, x80, x81, x82, x83, x84, x85, x86, x87, x88, x89, x90, x91, x92, x93, x94, x95, x96, x97, x98, x99, x100, x101, x102, x103, x104, x105, x106, x107, x108, x109, x110, x111, x112, x113, x114, x115, x116, x117, x118, x119, x120, x121, x122, x123, x124, x125, x126, x127, x128, x129, x130, x131, x132, x133, x134, x135, x136, x137, x138, x139, x140, x141, x142, x143, x144, x145, x146, x147, x148, x149, x150, x151, x152, x153, x154, x155, x156, x157, x158, x159, x160, x161, x162, x163, x164, x165, x166, x167, x168, x169, x170, x171, x172, x173, x174, x175, x176, x177, x178, x179, x180, x181, x182, x183, x184, x185, x186, x187, x188, x189, x190, x191, y192, y193, y194, y195, y196, y197, y198, y199, y200, y201, y202, y203, y204, y205, y206, y207, y208, y209, y210, y211, y212, y213, y214, y215, y216, y217, y218, y219, y220, y221, y222, y223, y224, y225, y226, x227, x228, x229, x230, x231, x232, x233], []⟩ wx) :
    Code.wp Try.prog ((Try.f3.body.bind (stmtAt 38)).getD .skip) Q ⟨#[x0, x1, .slice a1 len1 cap1, x3, x4, x5, x6, x7, x8, .pointer (some ⟨g1, 0, none⟩), x10, .slice av nd cv, x12, x13, x14, x15, x16, x17, x18, x19, x20, x21, x22, x23, x24, x25, x26, x27, x28, x29, x30, x31, x32, x33, x34, x35, x36, x37, x38, x39, x40, x41, x42, x43, x44, x45, x46, x47, x48, x49, x50, x51, x52, x53, x54, x55, x56, x57, x58, x59, x60, x61, x62, x63, x64, x65, x66, x67, x68, x69, x70, x71, x72, x73, x74, x75, x76, x77, x78, x79, x80, x81, x82, x83, x84, x85, x86, x87, x88, x89, x90, x91, x92, x93, x94, x95, x96, x97, x98, x99, x100, x101, x102, x103, x104, x105, x106, x107, x108, x109, x110, x111, x112, x113, x114, x115, x116, x117, x118, x119, x120, x121, x122, x123, x124, x125, x126, x127, x128, x129, x130, x131, x132, x133, x134, x135, x136, x137, x138, x139, x140, x141, x142, x143, x144, x145, x146, x147, x148, x149, x150, x151, x152, x153, x154, x155, x156, x157, x158, x159, x160, x161, x162, x163, x164, x165, x166, x167, x168, x169, x170, x171, x172, x173, x174, x175, x176, x177, x178, x179, x180, x181, x182, x183, x184, x185, x186, x187, x188, x189, x190, x191, x192, x193, x194, x195, x196, x197, x198, x199, x200, x201, x202, x203, x204, x205, x206, x207, x208, x209, x210, x211, x212, x213, x214, x215, x216, x217, x218, x219, x220, x221, x222, x223, x224, x225, x226, x227, x228, x229, x230, x231, x232, x233], []⟩ W := by
  conv => arg 2; whnf
  have HN : Hid (∀ (z : LS) (Tz : Nat → Prop) (wx : World) (y6 y21 y22 y23 y24 y25 y26 y192 y193 y194 y195 y196 y197 y198 y199 y200 y201 y202 y203 y204 y205 y206 y207 y208 y209 y210 y211 y212 y213 y214 y215 y216 y217 y218 y219 y220 y221 y222 y223 y224 y225 y226 : Value), z.all.length ≤ z.told → At wx g1 z Tz → Below w.heap.size w wx → (∀ b, Tz b → w.heap.size ≤ b) → Q .normal ⟨#[x0, x1, .slice a1 len1 cap1, x3, x4, x5, y6, x7, x8, .pointer (some ⟨g1, 0, none⟩), x10, .slice av nd cv, x12, x13, x14, x15, x16, x17, x18, x19, x20, y21, y22, y23, y24, y25, y26, x27, x28, x29, x30, x31, x32, x33, x34, x35, x36, x37, x38, x39, x40, x41, x42, x43, x44, x45, x46, x47, x48, x49, x50, x51, x52, x53, x54, x55, x56, x57, x58, x59, x60, x61, x62, x63, x64, x65, x66, x67, x68, x69, x70, x71, x72, x73, x74, x75, x76, x77, x78, x79, x80, x81, x82, x83, x84, x85, x86, x87, x88, x89, x90, x91, x92, x93, x94, x95, x96, x97, x98, x99, x100, x101, x102, x103, x104, x105, x106, x107, x108, x109, x110, x111, x112, x113, x114, x115, x116, x117, x118, x119, x120, x121, x122, x123, x124, x125, x126, x127, x128, x129, x130, x131, x132, x133, x134, x135, x136, x137, x138, x139, x140, x141, x142, x143, x144, x145, x146, x147, x148, x149, x150, x151, x152, x153, x154, x155, x156, x157, x158, x159, x160, x161, x162, x163, x164, x165, x166, x167, x168, x169, x170, x171, x172, x173, x174, x175, x176, x177, x178, x179, x180, x181, x182, x183, x184, x185, x186, x187, x188, x189, x190, x191, y192, y193, y194, y195, y196, y197, y198, y199, y200, y201, y202, y203, y204, y205, y206, y207, y208, y209, y210, y211, y212, y213, y214, y215, y216, y217, y218, y219, y220, y221, y222, y223, y224, y225, y226, x227, x228, x229, x230, x231, x232, x233], []⟩ wx) := hN
  have HR : Hid (∀ (wx : World) (y21 y22 y23 y24 y25 y26 y192 y193 y194 y195 y196 y197 y198 y199 y200 y201 y202 y203 y204 y205 y206 y207 y208 y209 y210 y211 y212 y213 y214 y215 y216 y217 y218 y219 y220 y221 y222 y223 y224 y225 y226 : Value), Below w.heap.size w wx → Q .ret ⟨#[x0, x1, .slice a1 len1 cap1, x3, x4, x5, .bool true, x7, x8, .pointer (some ⟨g1, 0, none⟩), x10, .slice av nd cv, x12, x13, x14, x15, x16, x17, x18, x19, x20, y21, y22, y23, y24, y25, y26, x27, x28, x29, x30, x31, x32, x33, x34, x35, x36, x37, x38, x39, x40, x41, x42, x43, x44, x45, x46, x47, x48, x49, x50, x51, x52, x53, x54, x55, x56, x57, x58, x59, x60, x61, x62, x63, x64, x65, x66, x67, x68, x69, x70, x71, x72, x73, x74, x75, x76, x77, x78, x79, x80, x81, x82, x83, x84, x85, x86, x87, x88, x89, x90, x91, x92, x93, x94, x95, x96, x97, x98, x99, x100, x101, x102, x103, x104, x105, x106, x107, x108, x109, x110, x111, x112, x113, x114, x115, x116, x117, x118, x119, x120, x121, x122, x123, x124, x125, x126, x127, x128, x129, x130, x131, x132, x133, x134, x135, x136, x137, x138, x139, x140, x141, x142, x143, x144, x145, x146, x147, x148, x149, x150, x151, x152, x153, x154, x155, x156, x157, x158, x159, x160, x161, x162, x163, x164, x165, x166, x167, x168, x169, x170, x171, x172, x173, x174, x175, x176, x177, x178, x179, x180, x181, x182, x183, x184, x185, x186, x187, x188, x189, x190, x191, y192, y193, y194, y195, y196, y197, y198, y199, y200, y201, y202, y203, y204, y205, y206, y207, y208, y209, y210, y211, y212, y213, y214, y215, y216, y217, y218, y219, y220, y221, y222, y223, y224, y225, y226, x227, x228, x229, x230, x231, x232, x233], []⟩ wx) := hR
  clear hN hR
  obtain rfl : nd = ds.length := by
    obtain ⟨a, c, e, -⟩ := hM.slice
    injection e
  obtain ⟨hA1, hA2, hA3⟩ := hA
  have hSl := hS.len
  refine seqX (fun Q1 n1 r1 _ => ?_)
  go_wp2_with fail
  refine n1 _ _ (blockX (fun Q2 n2 e2 r2 => ?_))
  go_loopw [21] (fun v21 wr => ∃ (i : Nat) (z : LS) (Sy : Nat → Prop), v21 = .int .i64 (i : Int) ∧ i ≤ ds.length ∧ z.all = y.all ∧ z.told = i ∧ MRow wr w.heap.size (.slice av ds.length cv) ds ∧ K12 At w g1 g0 z x Sy Tx (fun b => (Value.slice av ds.length cv).ownBlock = some b) wr) (fun v21 _ => ds.length - (intOf v21).toNat)
  case atStart => exact ⟨0, y, Ty, rfl, Nat.zero_le _, rfl, hto, hM, hK.turn⟩
  case round =>
    clear hK hM
    obtain ⟨i, z, Sy, rfl, hi, hz, hzt, hM, hK⟩ := hrel
    refine seqX (fun Q3 n3 r3 e3 => lk_t39 hi ?_ ?_)
    · intros
      rename_i hlt
      obtain ⟨D, hD⟩ : ∃ D, ds[i]? = some D := ⟨ds[i], List.getElem?_eq_getElem hlt⟩
      obtain ⟨hDI, hDs⟩ := hS.msgs i D hD
      refine n3 _ _ (seqX (fun Q4 n4 r4 e4 => blockX (fun Q5 n5 e5 r5 => ?_)))
      refine seqX (fun Q6 n6 r6 e6 => lk_p41 A hK.e0 ?_ ?_)
      · intro w1
        intros
        rename_i hle hT1
        obtain ⟨S1, hE1⟩ := hT1
        have hK1 := hK.onX A.toEndKept11 hE1
        have hM1 := hM.kept (hK.kept hE1.2.1)
        refine n6 _ _ (seqX (fun Q7 n7 r7 e7 => lk_p42 (Byts.nil w1) (by omega) ?_))
        intro m err w2
        intros
        rename_i hm hRes hb2
        have hb3 := bthen hb2 (balloc w2 (.cells #[.int .i64 m.k, .int .i64 m.a, .int .i64 m.b, .int .i64 m.c, .slice m.pi m.li m.ci, .slice m.pr m.lr m.cr, .slice m.pn m.ln m.cn] 31))
        have hK3 := hK1.grow A.toEndKept11 hb3
        have hM3 := hM1.kept (fun q e => hb3.block q (hM1.own q e).2.1)
        have hD3 : D.In (w2.alloc (.cells #[.int .i64 m.k, .int .i64 m.a, .int .i64 m.b, .int .i64 m.c, .slice m.pi m.li m.ci, .slice m.pr m.lr m.cr, .slice m.pn m.ln m.cn] 31)) := hDI.below hK3.below
        have hm3 := (⟨hm.1.below (balloc w2 _), hm.2.1.below (balloc w2 _), hm.2.2.below (balloc w2 _)⟩ : (Lsts (w2.alloc (.cells #[.int .i64 m.k, .int .i64 m.a, .int .i64 m.b, .int .i64 m.c, .slice m.pi m.li m.ci, .slice m.pr m.lr m.cr, .slice m.pn m.ln m.cn] 31)) m.pi m.li m.ci m.ids ∧ Lsts (w2.alloc (.cells #[.int .i64 m.k, .int .i64 m.a, .int .i64 m.b, .int .i64 m.c, .slice m.pi m.li m.ci, .slice m.pr m.lr m.cr, .slice m.pn m.ln m.cn] 31)) m.pr m.lr m.cr m.rows ∧ NRow (w2.alloc (.cells #[.int .i64 m.k, .int .i64 m.a, .int .i64 m.b, .int .i64 m.c, .slice m.pi m.li m.ci, .slice m.pr m.lr m.cr, .slice m.pn m.ln m.cn] 31)) m.pn m.ln m.cn m.nats))
        obtain ⟨a', c', e1, b, off, e2, c0, c1, c2, c3, c4, c5, c6⟩ := hM3.at hD
        injection e1 with i1 i2 i3
        subst i1 i3
        cases e2
        obtain ⟨M, hMe⟩ : ∃ M, M = sameM m.k m.a m.b m.c D.k D.a D.b D.c m.ids D.ids m.rows D.rows m.nats D.nats := ⟨_, rfl⟩
        refine n7 _ _ (seqX (fun Q8 n8 r8 e8 => lk_p43 hlt (by simp) (by simp) (by simp) (by simp) (by simp) (by simp) (by simp) c0 c1 c2 c3 c4 c5 c6 hm3 hD3 hMe ?_))
        intro w4
        intros
        rename_i hb4
        have hK4 := hK3.grow A.toEndKept11 hb4
        have hM4 := hM3.kept (fun q e => hb4.block q (hM3.own q e).2.1)
        refine n8 _ _ (lk_p44 (fun _ => ?_) ?_ ?_)
        · rw [hz] at hle
          omega
        · intros
          rename_i hf _ _
          cases hf
        · intros
          exact r5 _ _ (r4 _ _ (r2 _ _ (HR.out _ _ _ _ _ _ _ _ _ _ _ _ _ _ _ _ _ _ _ _ _ _ _ _ _ _ _ _ _ _ _ _ _ _ _ _ _ _ _ _ _ _ hK4.below)))
      · intro p l c S1 w1
        intros
        rename_i hle hE1 hBy
        have hK1 := hK.onX A.toEndKept11 hE1
        have hM1 := hM.kept (hK.kept hE1.2.1)
        rw [hz, hzt] at hBy hle
        have hgt : y.all.getD i [] = st.took.getD i [] := by
          rw [hA1]
          simp [List.getD, hle]
        rw [hgt] at hBy
        have hl : l ≤ 140737488355300 := by
          have h1 := hBy.byts.hlen
          have h2 := hDs.2.2
          omega
        refine n6 _ _ (seqX (fun Q7 n7 r7 e7 => lk_p42 hBy.byts hl ?_))
        intro m err w2
        intros
        rename_i hm hRes hb2
        have hb3 := bthen hb2 (balloc w2 (.cells #[.int .i64 m.k, .int .i64 m.a, .int .i64 m.b, .int .i64 m.c, .slice m.pi m.li m.ci, .slice m.pr m.lr m.cr, .slice m.pn m.ln m.cn] 31))
        have hK3 := hK1.grow A.toEndKept11 hb3
        have hM3 := hM1.kept (fun q e => hb3.block q (hM1.own q e).2.1)
        have hD3 : D.In (w2.alloc (.cells #[.int .i64 m.k, .int .i64 m.a, .int .i64 m.b, .int .i64 m.c, .slice m.pi m.li m.ci, .slice m.pr m.lr m.cr, .slice m.pn m.ln m.cn] 31)) := hDI.below hK3.below
        have hm3 := (⟨hm.1.below (balloc w2 _), hm.2.1.below (balloc w2 _), hm.2.2.below (balloc w2 _)⟩ : (Lsts (w2.alloc (.cells #[.int .i64 m.k, .int .i64 m.a, .int .i64 m.b, .int .i64 m.c, .slice m.pi m.li m.ci, .slice m.pr m.lr m.cr, .slice m.pn m.ln m.cn] 31)) m.pi m.li m.ci m.ids ∧ Lsts (w2.alloc (.cells #[.int .i64 m.k, .int .i64 m.a, .int .i64 m.b, .int .i64 m.c, .slice m.pi m.li m.ci, .slice m.pr m.lr m.cr, .slice m.pn m.ln m.cn] 31)) m.pr m.lr m.cr m.rows ∧ NRow (w2.alloc (.cells #[.int .i64 m.k, .int .i64 m.a, .int .i64 m.b, .int .i64 m.c, .slice m.pi m.li m.ci, .slice m.pr m.lr m.cr, .slice m.pn m.ln m.cn] 31)) m.pn m.ln m.cn m.nats))
        obtain ⟨a', c', e1, b, off, e2, c0, c1, c2, c3, c4, c5, c6⟩ := hM3.at hD
        injection e1 with i1 i2 i3
        subst i1 i3
        cases e2
        obtain ⟨M, hMe⟩ : ∃ M, M = sameM m.k m.a m.b m.c D.k D.a D.b D.c m.ids D.ids m.rows D.rows m.nats D.nats := ⟨_, rfl⟩
        refine n7 _ _ (seqX (fun Q8 n8 r8 e8 => lk_p43 hlt (by simp) (by simp) (by simp) (by simp) (by simp) (by simp) (by simp) c0 c1 c2 c3 c4 c5 c6 hm3 hD3 hMe ?_))
        intro w4
        intros
        rename_i hb4
        have hK4 := hK3.grow A.toEndKept11 hb4
        have hM4 := hM3.kept (fun q e => hb4.block q (hM3.own q e).2.1)
        obtain ⟨hu, he⟩ := hRes.unique (.inl ⟨hDs.1, hDs.2.1, hDs.2.2, rfl⟩) hm.2.2.digs hDI.nats.digs
        have hMt : M = true := by rw [hMe]; exact sameM_iff.2 hu
        refine n8 _ _ (lk_p44 (fun hn => absurd ⟨rfl, he, hMt⟩ hn) ?_ ?_)
        · intros
          refine n5 _ _ (n4 _ _ (lk_p40 (by omega) ?_))
          intros
          dsimp only [Exit.then]
          go_roundw
          case rel => exact ⟨i + 1, { z with told := z.told + 1 }, S1, rfl, by omega, hz, (by show z.told + 1 = i + 1; omega), hM4, hK4⟩
          case measure => simp [intOf]; omega
        · intros
          exact r5 _ _ (r4 _ _ (r2 _ _ (HR.out _ _ _ _ _ _ _ _ _ _ _ _ _ _ _ _ _ _ _ _ _ _ _ _ _ _ _ _ _ _ _ _ _ _ _ _ _ _ _ _ _ _ hK4.below)))
    · intros
      rename_i he
      have hq : z.all.length ≤ z.told := by rw [hz]; omega
      exact e3 _ _ _ (e2 _ _ (HN.out z Sy _ _ _ _ _ _ _ _ _ _ _ _ _ _ _ _ _ _ _ _ _ _ _ _ _ _ _ _ _ _ _ _ _ _ _ _ _ _ _ _ _ _ _ hq hK.e0 hK.below (fun b e => hK.new b (.inl e))))

end Go.Proofs.Ytnbdbahfekneoab

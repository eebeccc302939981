/-
  TopLinks: the messages are sent. Written by mk/p12l.py.
-/
import Derived.Test.YtnbdbahfekneoabP12Lb
namespace Go.Proofs.Ytnbdbahfekneoab
open Go.RowKit

/-- A row of messages has grown. -/
theorem K12.app {At : World → Nat → LS → (Nat → Prop) → Prop} (A : EndKept11 At) {w W wx : World} {g0 g1 : Nat} {s0 s1 : LS} {T0 T1 : Nat → Prop} {v v' : Value} {ds ds' : List MD} {o : Obj} (h : K12 At w g0 g1 s0 s1 T0 T1 (fun b => v.ownBlock = some b) W) (hR : MRow W w.heap.size v ds) (hg : (W.alloc o).grownBy wx v.ownBlock) (hv : v'.ownBlock = v.ownBlock ∨ v'.ownBlock = some (W.heap.size + 1)) (hR' : MRow wx w.heap.size v' ds') : K12 At w g0 g1 s0 s1 T0 T1 (fun b => v'.ownBlock = some b) wx :=
  h.other A (D := fun b => v.ownBlock = some b) (Only.trans (Only.of_below (balloc W o)) (Only.of_grown (T := fun b => v.ownBlock = some b) hg (fun b e => e)) (fun q e => .inl e)) (fun b e => ⟨(h.free b e).1, (h.free b e).2.1⟩) (fun b e => (hR.own b e).2.2) (fun b e => (hR.own b e).1) (fun b e => by
    rcases hv with q | q
    · exact .inl (q ▸ e)
    · rw [q] at e
      have e2 := Option.some.inj e
      exact .inr ⟨by omega, (hR'.own b (by rw [q, e2])).2.1⟩)

set_option maxRecDepth 100000 in
set_option maxHeartbeats 12800000 in
theorem lk_l1 {x0 x2 x3 x4 x5 x6 x8 x10 x12 x13 x14 x15 x16 x17 x18 x19 x20 x21 x22 x23 x24 x25 x26 x27 x28 x29 x30 x31 x32 x33 x34 x35 x36 x37 x38 x39 x40 x41 x42 x43 x44 x45 x46 x47 x48 x49 x50 x51 x52 x53 x54 x55 x56 x57 x58 x59 x60 x61 x62 x63 x64 x65 x66 x67 x68 x69 x70 x71 x72 x73 x74 x75 x76 x77 x78 x79 x80 x81 x82 x83 x84 x85 x86 x87 x88 x89 x90 x91 x92 x93 x94 x95 x96 x97 x98 x99 x100 x101 x102 x103 x104 x105 x106 x107 x108 x109 x110 x111 x112 x113 x114 x115 x116 x117 x118 x119 x120 x121 x122 x123 x124 x125 x126 x127 x128 x129 x130 x131 x132 x133 x134 x135 x136 x137 x138 x139 x140 x141 x142 x143 x144 x145 x146 x147 x148 x149 x150 x151 x152 x153 x154 x155 x156 x157 x158 x159 x160 x161 x162 x163 x164 x165 x166 x167 x168 x169 x170 x171 x172 x173 x174 x175 x176 x177 x178 x179 x180 x181 x182 x183 x184 x185 x186 x187 x188 x189 x190 x191 x192 x193 x194 x195 x196 x197 x198 x199 x200 x201 x202 x203 x204 x205 x206 x207 x208 x209 x210 x211 x212 x213 x214 x215 x216 x217 x218 x219 x220 x221 x222 x223 x224 x225 x226 x227 x228 x229 x230 x231 x232 x233 : Value} {Q : Exit → Act → World → Prop} {At : World → Nat → LS → (Nat → Prop) → Prop} {w W : World} {g0 g1 N len cap : Nat} {a0 : Option Addr} {T0 T1 : Nat → Prop} (A : EndUse11 At) (hN16 : 1 ≤ N ∧ N ≤ 16) (hl50 : len ≤ 50) (HMl : MsgsIn w a0 len) (HK : K12 At w g0 g1 (LS.new N) (LS.new N) T0 T1 (fun _ => False) W)
    (hN : ∀ (v : Value) (ds : List MD) (st : LS) (Tx : Nat → Prop) (wx : World) (y6 y12 y13 y14 y69 y70 y71 y72 y73 y74 y75 y76 y77 y78 y79 y80 y81 y82 y83 y84 y85 y86 y87 y88 y89 y90 y91 y92 y93 y94 y95 y96 y97 y98 y99 y100 y101 y102 y103 y104 y105 y106 y107 y108 y109 y110 y111 y112 y113 y114 y115 y116 y117 y118 y119 y120 y121 : Value), ds.length ≤ 50 → MRow wx w.heap.size v ds → SentOk w N ds st → K12 At w g0 g1 st (LS.new N) Tx T1 (fun b => v.ownBlock = some b) wx → Q .normal ⟨#[x0, .slice a0 len cap, x2, x3, x4, x5, y6, .pointer (some ⟨g0, 0, none⟩), x8, .pointer (some ⟨g1, 0, none⟩), x10, v, y12, y13, y14, x15, x16, x17, x18, x19, x20, x21, x22, x23, x24, x25, x26, x27, x28, x29, x30, x31, x32, x33, x34, x35, x36, x37, x38, x39, x40, x41, x42, x43, x44, x45, x46, x47, x48, x49, x50, x51, x52, x53, x54, x55, x56, x57, x58, x59, x60, x61, x62, x63, x64, x65, x66, x67, x68, y69, y70, y71, y72, y73, y74, y75, y76, y77, y78, y79, y80, y81, y82, y83, y84, y85, y86, y87, y88, y89, y90, y91, y92, y93, y94, y95, y96, y97, y98, y99, y100, y101, y102, y103, y104, y105, y106, y107, y108, y109, y110, y111, y112, y113, y114, y115, y116, y117, y118, y119, y120, y121, x122, x123, x124, x125, x126, x127, x128, x129, x130, x131, x132, x133, x134, x135, x136, x137, x138, x139, x140, x141, x142, x143, x144, x145, x146, x147, x148, x149, x150, x151, x152, x153, x154, x155, x156, x157, x158, x159, x160, x161, x162, x163, x164, x165, x166, x167, x168, x169, x170, x171, x172, x173, x174, x175, x176, x177, x178, x179, x180, x181, x182, x183, x184, x185, x186, x187, x188, x189, x190, x191, x192, x193, x194, x195, x196, x197, x198, x199, x200, x201, x202, x203, x204, x205, x206, x207, x208, x209, x210, x211, x212, x213, x214, x215, x216, x217, x218, x219, x220, x221, x222, x223, x224, x225, x226, x227, x228, x229, x230, x231, x232, x233], []⟩ wx)
    (hR : ∀ (wx : World) (y11 y12 y13 y14 y69 y70 y71 y72 y73 y74 y75 y76 y77 y78 y79 y80 y81 y82 y83 y84 y85 y86 y87 y88 y89 y90 y91 y92 y93 y94 y95 y96 y97 y98 y99 y100 y101 y102 y103 y104 y105 y106 y107 y108 y109 y110 y111 y112 y113 y114 y115 y116 y117 y118 y119 y120 y121 : Value), Below w.heap.size w wx → Q .ret ⟨#[x0, .slice a0 len cap, x2, x3, x4, x5, .bool true, .pointer (some ⟨g0, 0, none⟩), x8, .pointer (some ⟨g1, 0, none⟩), x10, y11, y12, y13, y14, x15, x16, x17, x18, x19, x20, x21, x22, x23, x24, x25, x26, x27, x28, x29, x30, x31, x32, x33, x34, x35, x36, x37, x38, x39, x40, x41, x42, x43, x44, x45, x46, x47, x48, x49, x50, x51, x52, x53, x54, x55, x56, x57, x58, x59, x60, x61, x62, x63, x64, x65, x66, x67, x68, y69, y70, y71, y72, y73, y74, y75, y76, y77, y78, y79, y80, y81, y82, y83, y84, y85, y86, y87, y88, y89, y90, y91, y92, y93, y94, y95, y96, y97, y98, y99, y100, y101, y102, y103, y104, y105, y106, y107, y108, y109, y110, y111, y112, y113, y114, y115, y116, y117, y118, y119, y120, y121, x122, x123, x124, x125, x126, x127, x128, x129, x130, x131, x132, x133, x134, x135, x136, x137, x138, x139, x140, x141, x142, x143, x144, x145, x146, x147, x148, x149, x150, x151, x152, x153, x154, x155, x156, x157, x158, x159, x160, x161, x162, x163, x164, x165, x166, x167, x168, x169, x170, x171, x172, x173, x174, x175, x176, x177, x178, x179, x180, x181, x182, x183, x184, x185, x186, x187, x188, x189, x190, x191, x192, x193, x194, x195, x196, x197, x198, x199, x200, x201, x202, x203, x204, x205, x206, x207, x208, x209, x210, x211, x212, x213, x214, x215, x216, x217, x218, x219, x220, x221, x222, x223, x224, x225, x226, x227, x228, x229, x230, x231, x232, x233], []⟩ wx) :
    Code.wp Try.prog ((Try.f3.body.bind (stmtAt 8)).getD .skip) Q ⟨#[x0, .slice a0 len cap, x2, x3, x4, x5, x6, .pointer (some ⟨g0, 0, none⟩), x8, .pointer (some ⟨g1, 0, none⟩), x10, .slice none 0 0, x12, x13, x14, x15, x16, x17, x18, x19, x20, x21, x22, x23, x24, x25, x26, x27, x28, x29, x30, x31, x32, x33, x34, x35, x36, x37, x38, x39, x40, x41, x42, x43, x44, x45, x46, x47, x48, x49, x50, x51, x52, x53, x54, x55, x56, x57, x58, x59, x60, x61, x62, x63, x64, x65, x66, x67, x68, x69, x70, x71, x72, x73, x74, x75, x76, x77, x78, x79, x80, x81, x82, x83, x84, x85, x86, x87, x88, x89, x90, x91, x92, x93, x94, x95, x96, x97, x98, x99, x100, x101, x102, x103, x104, x105, x106, x107, x108, x109, x110, x111, x112, x113, x114, x115, x116, x117, x118, x119, x120, x121, x122, x123, x124, x125, x126, x127, x128, x129, x130, x131, x132, x133, x134, x135, x136, x137, x138, x139, x140, x141, x142, x143, x144, x145, x146, x147, x148, x149, x150, x151, x152, x153, x154, x155, x156, x157, x158, x159, x160, x161, x162, x163, x164, x165, x166, x167, x168, x169, x170, x171, x172, x173, x174, x175, x176, x177, x178, x179, x180, x181, x182, x183, x184, x185, x186, x187, x188, x189, x190, x191, x192, x193, x194, x195, x196, x197, x198, x199, x200, x201, x202, x203, x204, x205, x206, x207, x208, x209, x210, x211, x212, x213, x214, x215, x216, x217, x218, x219, x220, x221, x222, x223, x224, x225, x226, x227, x228, x229, x230, x231, x232, x233], []⟩ W := by
  conv => arg 2; whnf
  have HN : Hid (∀ (v : Value) (ds : List MD) (st : LS) (Tx : Nat → Prop) (wx : World) (y6 y12 y13 y14 y69 y70 y71 y72 y73 y74 y75 y76 y77 y78 y79 y80 y81 y82 y83 y84 y85 y86 y87 y88 y89 y90 y91 y92 y93 y94 y95 y96 y97 y98 y99 y100 y101 y102 y103 y104 y105 y106 y107 y108 y109 y110 y111 y112 y113 y114 y115 y116 y117 y118 y119 y120 y121 : Value), ds.length ≤ 50 → MRow wx w.heap.size v ds → SentOk w N ds st → K12 At w g0 g1 st (LS.new N) Tx T1 (fun b => v.ownBlock = some b) wx → Q .normal ⟨#[x0, .slice a0 len cap, x2, x3, x4, x5, y6, .pointer (some ⟨g0, 0, none⟩), x8, .pointer (some ⟨g1, 0, none⟩), x10, v, y12, y13, y14, x15, x16, x17, x18, x19, x20, x21, x22, x23, x24, x25, x26, x27, x28, x29, x30, x31, x32, x33, x34, x35, x36, x37, x38, x39, x40, x41, x42, x43, x44, x45, x46, x47, x48, x49, x50, x51, x52, x53, x54, x55, x56, x57, x58, x59, x60, x61, x62, x63, x64, x65, x66, x67, x68, y69, y70, y71, y72, y73, y74, y75, y76, y77, y78, y79, y80, y81, y82, y83, y84, y85, y86, y87, y88, y89, y90, y91, y92, y93, y94, y95, y96, y97, y98, y99, y100, y101, y102, y103, y104, y105, y106, y107, y108, y109, y110, y111, y112, y113, y114, y115, y116, y117, y118, y119, y120, y121, x122, x123, x124, x125, x126, x127, x128, x129, x130, x131, x132, x133, x134, x135, x136, x137, x138, x139, x140, x141, x142, x143, x144, x145, x146, x147, x148, x149, x150, x151, x152, x153, x154, x155, x156, x157, x158, x159, x160, x161, x162, x163, x164, x165, x166, x167, x168, x169, x170, x171, x172, x173, x174, x175, x176, x177, x178, x179, x180, x181, x182, x183, x184, x185, x186, x187, x188, x189, x190, x191, x192, x193, x194, x195, x196, x197, x198, x199, x200, x201, x202, x203, x204, x205, x206, x207, x208, x209, x210, x211, x212, x213, x214, x215, x216, x217, x218, x219, x220, x221, x222, x223, x224, x225, x226, x227, x228, x229, x230, x231, x232, x233], []⟩ wx) := hN
  have HR : Hid (∀ (wx : World) (y11 y12 y13 y14 y69 y70 y71 y72 y73 y74 y75 y76 y77 y78 y79 y80 y81 y82 y83 y84 y85 y86 y87 y88 y89 y90 y91 y92 y93 y94 y95 y96 y97 y98 y99 y100 y101 y102 y103 y104 y105 y106 y107 y108 y109 y110 y111 y112 y113 y114 y115 y116 y117 y118 y119 y120 y121 : Value), Below w.heap.size w wx → Q .ret ⟨#[x0, .slice a0 len cap, x2, x3, x4, x5, .bool true, .pointer (some ⟨g0, 0, none⟩), x8, .pointer (some ⟨g1, 0, none⟩), x10, y11, y12, y13, y14, x15, x16, x17, x18, x19, x20, x21, x22, x23, x24, x25, x26, x27, x28, x29, x30, x31, x32, x33, x34, x35, x36, x37, x38, x39, x40, x41, x42, x43, x44, x45, x46, x47, x48, x49, x50, x51, x52, x53, x54, x55, x56, x57, x58, x59, x60, x61, x62, x63, x64, x65, x66, x67, x68, y69, y70, y71, y72, y73, y74, y75, y76, y77, y78, y79, y80, y81, y82, y83, y84, y85, y86, y87, y88, y89, y90, y91, y92, y93, y94, y95, y96, y97, y98, y99, y100, y101, y102, y103, y104, y105, y106, y107, y108, y109, y110, y111, y112, y113, y114, y115, y116, y117, y118, y119, y120, y121, x122, x123, x124, x125, x126, x127, x128, x129, x130, x131, x132, x133, x134, x135, x136, x137, x138, x139, x140, x141, x142, x143, x144, x145, x146, x147, x148, x149, x150, x151, x152, x153, x154, x155, x156, x157, x158, x159, x160, x161, x162, x163, x164, x165, x166, x167, x168, x169, x170, x171, x172, x173, x174, x175, x176, x177, x178, x179, x180, x181, x182, x183, x184, x185, x186, x187, x188, x189, x190, x191, x192, x193, x194, x195, x196, x197, x198, x199, x200, x201, x202, x203, x204, x205, x206, x207, x208, x209, x210, x211, x212, x213, x214, x215, x216, x217, x218, x219, x220, x221, x222, x223, x224, x225, x226, x227, x228, x229, x230, x231, x232, x233], []⟩ wx) := hR
  clear hN hR
  refine seqX (fun Q1 n1 r1 _ => ?_)
  go_wp2_with fail
  refine n1 _ _ (blockX (fun Q2 n2 e2 r2 => ?_))
  go_loopw [11, 12] (fun v11 v12 wr => ∃ (i : Nat) (ds : List MD), v12 = .int .i64 (i : Int) ∧ i ≤ len ∧ ds.length ≤ i ∧ MRow wr w.heap.size v11 ds ∧ (∃ st Tx, SentOk w N ds st ∧ K12 At w g0 g1 st (LS.new N) Tx T1 (fun b => v11.ownBlock = some b) wr)) (fun _ v12 _ => len - (intOf v12).toNat)
  case atStart => exact ⟨0, [], rfl, Nat.zero_le _, Nat.le_refl _, MRow.nil _ _, _, T0, SentOk.new w hN16, HK.less (fun b e => by simp [Value.ownBlock] at e)⟩
  case round =>
    obtain ⟨i, ds, rfl, hi, hds, hR, st, Tx, hS, hK⟩ := hrel
    refine seqX (fun Q3 n3 r3 e3 => lk_t9 hi ?_ ?_)
    · intros
      rename_i hlt
      refine n3 _ _ (seqX (fun Q4 n4 r4 e4 => blockX (fun Q5 n5 e5 r5 => ?_)))
      have hB := hK.below
      obtain ⟨d, hcw, hdw⟩ := HMl i hlt
      obtain ⟨b, off, rfl, c0, c1, c2, c3, c4, c5, c6⟩ := hcw.below hB
      have hdr := hdw.below hB
      have l1 := hdr.ids.hcap
      have l2 := hdr.ids.hmax
      have l3 := hdr.rows.hcap
      have l4 := hdr.rows.hmax
      have l5 := hdr.nats.hcap
      have l6 := hdr.nats.hmax
      unfold maxLen at l2 l4 l6
      refine seqX (fun Q6 n6 r6 e6 => lk_p11 hlt c4 c5 c6 ⟨l1, l2⟩ ⟨l3, l4⟩ ⟨l5, l6⟩ ?_ ?_)
      · intros
        refine n6 _ _ (seqX (fun Q7 n7 r7 e7 => lk_p13 hlt c0 c1 c2 c3 c4 c5 c6 hdr ?_))
        intro ya yl yc ys er w5
        intros
        rename_i hY hRes hyn hb5
        have hR5 := hR.kept (fun q e => hb5.block q (hR.own q e).2.1)
        have hK5 := hK.grow A.toEndKept11 hb5
        refine n7 _ _ (seqX (fun Q8 n8 r8 e8 => lk_p14 ?_ ?_))
        · intros
          rename_i z
          subst z
          have hI : d.Is ys := by
            rcases hRes with ⟨u1, u2, u3, -⟩ | ⟨-, -, u3⟩
            · exact ⟨u1, u2, u3⟩
            · cases u3
          have hyl : yl ≤ 140737488355300 := by
            have h1 := hY.hlen
            have h2 := hI.2.2
            omega
          obtain ⟨hz, hS2⟩ := hS.snoc hdw hI (by omega)
          refine n8 _ _ (seqX (fun Q9 n9 r9 e9 => lk_p15 A hK5.e0 hY hyn hyl hz ?_))
          intro w6
          intros
          rename_i hT6
          obtain ⟨T6, hE6⟩ := hT6
          have hK6 := hK5.onX A.toEndKept11 hE6
          have hR6 := hR5.kept (hK5.kept hE6.2.1)
          refine n9 _ _ (seqX (fun Q10 n10 r10 e10 => lk_p16 ?_))
          intros
          obtain ⟨b', off', e', c0', c1', c2', c3', c4', c5', c6'⟩ := hcw.below hK6.below
          cases e'
          refine n10 _ _ (lk_p18 hlt c0' c1' c2' c3' c4' c5' c6' hR6 (by omega) hK6.below.size ?_)
          intro v7 w7
          intros
          rename_i h7 h8 h9
          have hK7 := hK6.app A.toEndKept11 hR6 h8 h9 h7
          refine n5 _ _ (n4 _ _ (lk_p10 (by omega) ?_))
          intros
          dsimp only [Exit.then]
          go_roundw
          case rel => exact ⟨i + 1, ds ++ [d], rfl, by omega, by simp; omega, h7, _, T6, hS2, hK7⟩
          case measure => simp [intOf]; omega
        · intros
          refine e8 _ _ _ (e5 _ _ (n4 _ _ (lk_p10 (by omega) ?_)))
          intros
          dsimp only [Exit.then]
          go_roundw
          case rel => exact ⟨i + 1, ds, rfl, by omega, by omega, hR5, st, Tx, hS, hK5⟩
          case measure => simp [intOf]; omega
      · intros
        exact r6 _ _ (r5 _ _ (r4 _ _ (r2 _ _ (HR.out _ _ _ _ _ _ _ _ _ _ _ _ _ _ _ _ _ _ _ _ _ _ _ _ _ _ _ _ _ _ _ _ _ _ _ _ _ _ _ _ _ _ _ _ _ _ _ _ _ _ _ _ _ _ _ _ _ _ hB))))
    · intros
      exact e3 _ _ _ (e2 _ _ (HN.out _ ds st Tx _ _ _ _ _ _ _ _ _ _ _ _ _ _ _ _ _ _ _ _ _ _ _ _ _ _ _ _ _ _ _ _ _ _ _ _ _ _ _ _ _ _ _ _ _ _ _ _ _ _ _ _ _ _ _ _ _ _ (by omega) hR hS hK))

end Go.Proofs.Ytnbdbahfekneoab

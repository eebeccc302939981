/-
  TopLinks: the rounds. Written by mk/p12l.py.
-/
import Derived.Test.YtnbdbahfekneoabP12Lf
namespace Go.Proofs.Ytnbdbahfekneoab
open Go.RowKit

set_option maxRecDepth 100000 in
set_option maxHeartbeats 12800000 in
theorem lk_l2 {x0 x1 x3 x4 x5 x6 x8 x10 x12 x13 x14 x16 x17 x18 x19 x20 x21 x22 x23 x24 x25 x26 x27 x28 x29 x30 x31 x32 x33 x34 x35 x36 x37 x38 x39 x40 x41 x42 x43 x44 x45 x46 x47 x48 x49 x50 x51 x52 x53 x54 x55 x56 x57 x58 x59 x60 x61 x62 x63 x64 x65 x66 x67 x68 x69 x70 x71 x72 x73 x74 x75 x76 x77 x78 x79 x80 x81 x82 x83 x84 x85 x86 x87 x88 x89 x90 x91 x92 x93 x94 x95 x96 x97 x98 x99 x100 x101 x102 x103 x104 x105 x106 x107 x108 x109 x110 x111 x112 x113 x114 x115 x116 x117 x118 x119 x120 x121 x122 x123 x124 x125 x126 x127 x128 x129 x130 x131 x132 x133 x134 x135 x136 x137 x138 x139 x140 x141 x142 x143 x144 x145 x146 x147 x148 x149 x150 x151 x152 x153 x154 x155 x156 x157 x158 x159 x160 x161 x162 x163 x164 x165 x166 x167 x168 x169 x170 x171 x172 x173 x174 x175 x176 x177 x178 x179 x180 x181 x182 x183 x184 x185 x186 x187 x188 x189 x190 x191 x192 x193 x194 x195 x196 x197 x198 x199 x200 x201 x202 x203 x204 x205 x206 x207 x208 x209 x210 x211 x212 x213 x214 x215 x216 x217 x218 x219 x220 x221 x222 x223 x224 x225 x226 x227 x228 x229 x230 x231 x232 x233 : Value} {Q : Exit → Act → World → Prop} {At : World → Nat → LS → (Nat → Prop) → Prop} {w W : World} {g0 g1 N : Nat} {a1 : Option Addr} {len1 cap1 : Nat} {qs : List Bool} {av : Option Addr} {nd cv : Nat} {ds : List MD} {st : LS} {Tx Ty : Nat → Prop} (A : EndUse11 At) (hQ : BoolsIn w a1 len1 qs) (hlen : len1 ≤ 140737488355328) (hM : MRow W w.heap.size (.slice av nd cv) ds) (hd : ds.length ≤ 50) (hS : SentOk w N ds st) (hK : K12 At w g0 g1 st (LS.new N) Tx Ty (fun b => (Value.slice av nd cv).ownBlock = some b) W)
    (hN : ∀ (y : LS) (Tx Ty : Nat → Prop) (x : LS) (wx : World) (y15 y16 y17 y18 y19 y20 y122 y123 y124 y125 y126 y127 y128 y129 y130 y131 y132 y133 y134 y135 y136 y137 y138 y139 y140 y141 y142 y143 y144 y145 y146 y147 y148 y149 y150 y151 y152 y153 y154 y155 y156 y157 y158 y159 y160 y161 y162 y163 y164 y165 y166 y167 y168 y169 y170 y171 y172 y173 y174 y175 y176 y177 y178 y179 y180 y181 y182 y183 y184 y185 y186 y187 y188 y189 y190 y191 : Value), (y.all = st.took.take y.all.length ∧ y.all.length ≤ st.took.length ∧ (y.all.length = st.took.length ∨ 500 < len1)) → y.told = 0 → MRow wx w.heap.size (.slice av nd cv) ds → K12 At w g0 g1 x y Tx Ty (fun b => (Value.slice av nd cv).ownBlock = some b) wx → Q .normal ⟨#[x0, x1, .slice a1 len1 cap1, x3, x4, x5, x6, .pointer (some ⟨g0, 0, none⟩), x8, .pointer (some ⟨g1, 0, none⟩), x10, .slice av nd cv, x12, x13, x14, y15, y16, y17, y18, y19, y20, x21, x22, x23, x24, x25, x26, x27, x28, x29, x30, x31, x32, x33, x34, x35, x36, x37, x38, x39, x40, x41, x42, x43, x44, x45, x46, x47, x48, x49, x50, x51, x52, x53, x54, x55, x56, x57, x58, x59, x60, x61, x62, x63, x64, x65, x66, x67, x68, x69, x70, x71, x72, x73, x74, x75, x76, x77, x78, x79, x80, x81, x82, x83, x84, x85, x86, x87, x88, x89, x90, x91, x92, x93, x94, x95, x96, x97, x98, x99, x100, x101, x102, x103, x104, x105, x106, x107, x108, x109, x110, x111, x112, x113, x114, x115, x116, x117, x118, x119, x120, x121, y122, y123, y124, y125, y126, y127, y128, y129, y130, y131, y132, y133, y134, y135, y136, y137, y138, y139, y140, y141, y142, y143, y144, y145, y146, y147, y148, y149, y150, y151, y152, y153, y154, y155, y156, y157, y158, y159, y160, y161, y162, y163, y164, y165, y166, y167, y168, y169, y170, y171, y172, y173, y174, y175, y176, y177, y178, y179, y180, y181, y182, y183, y184, y185, y186, y187, y188, y189, y190, y191, x192, x193, x194, x195, x196, x197, x198, x199, x200, x201, x202, x203, x204, x205, x206, x207, x208, x209, x210, x211, x212, x213, x214, x215, x216, x217, x218, x219, x220, x221, x222, x223, x224, x225, x226, x227, x228, x229, x230, x231, x232, x233], []⟩ wx) :
    Code.wp Try.prog ((Try.f3.body.bind (stmtAt 20)).getD .skip) Q ⟨#[x0, x1, .slice a1 len1 cap1, x3, x4, x5, x6, .pointer (some ⟨g0, 0, none⟩), x8, .pointer (some ⟨g1, 0, none⟩), x10, .slice av nd cv, x12, x13, x14, .int .i64 0, x16, x17, x18, x19, x20, x21, x22, x23, x24, x25, x26, x27, x28, x29, x30, x31, x32, x33, x34, x35, x36, x37, x38, x39, x40, x41, x42, x43, x44, x45, x46, x47, x48, x49, x50, x51, x52, x53, x54, x55, x56, x57, x58, x59, x60, x61, x62, x63, x64, x65, x66, x67, x68, x69, x70, x71, x72, x73, x74, x75, x76, x77, x78, x79, x80, x81, x82, x83, x84, x85, x86, x87, x88, x89, x90, x91, x92, x93, x94, x95, x96, x97, x98, x99, x100, x101, x102, x103, x104, x105, x106, x107, x108, x109, x110, x111, x112, x113, x114, x115, x116, x117, x118, x119, x120, x121, x122, x123, x124, x125, x126, x127, x128, x129, x130, x131, x132, x133, x134, x135, x136, x137, x138, x139, x140, x141, x142, x143, x144, x145, x146, x147, x148, x149, x150, x151, x152, x153, x154, x155, x156, x157, x158, x159, x160, x161, x162, x163, x164, x165, x166, x167, x168, x169, x170, x171, x172, x173, x174, x175, x176, x177, x178, x179, x180, x181, x182, x183, x184, x185, x186, x187, x188, x189, x190, x191, x192, x193, x194, x195, x196, x197, x198, x199, x200, x201, x202, x203, x204, x205, x206, x207, x208, x209, x210, x211, x212, x213, x214, x215, x216, x217, x218, x219, x220, x221, x222, x223, x224, x225, x226, x227, x228, x229, x230, x231, x232, x233], []⟩ W := by
  conv => arg 2; whnf
  have HN : Hid (∀ (y : LS) (Tx Ty : Nat → Prop) (x : LS) (wx : World) (y15 y16 y17 y18 y19 y20 y122 y123 y124 y125 y126 y127 y128 y129 y130 y131 y132 y133 y134 y135 y136 y137 y138 y139 y140 y141 y142 y143 y144 y145 y146 y147 y148 y149 y150 y151 y152 y153 y154 y155 y156 y157 y158 y159 y160 y161 y162 y163 y164 y165 y166 y167 y168 y169 y170 y171 y172 y173 y174 y175 y176 y177 y178 y179 y180 y181 y182 y183 y184 y185 y186 y187 y188 y189 y190 y191 : Value), (y.all = st.took.take y.all.length ∧ y.all.length ≤ st.took.length ∧ (y.all.length = st.took.length ∨ 500 < len1)) → y.told = 0 → MRow wx w.heap.size (.slice av nd cv) ds → K12 At w g0 g1 x y Tx Ty (fun b => (Value.slice av nd cv).ownBlock = some b) wx → Q .normal ⟨#[x0, x1, .slice a1 len1 cap1, x3, x4, x5, x6, .pointer (some ⟨g0, 0, none⟩), x8, .pointer (some ⟨g1, 0, none⟩), x10, .slice av nd cv, x12, x13, x14, y15, y16, y17, y18, y19, y20, x21, x22, x23, x24, x25, x26, x27, x28, x29, x30, x31, x32, x33, x34, x35, x36, x37, x38, x39, x40, x41, x42, x43, x44, x45, x46, x47, x48, x49, x50, x51, x52, x53, x54, x55, x56, x57, x58, x59, x60, x61, x62, x63, x64, x65, x66, x67, x68, x69, x70, x71, x72, x73, x74, x75, x76, x77, x78, x79, x80, x81, x82, x83, x84, x85, x86, x87, x88, x89, x90, x91, x92, x93, x94, x95, x96, x97, x98, x99, x100, x101, x102, x103, x104, x105, x106, x107, x108, x109, x110, x111, x112, x113, x114, x115, x116, x117, x118, x119, x120, x121, y122, y123, y124, y125, y126, y127, y128, y129, y130, y131, y132, y133, y134, y135, y136, y137, y138, y139, y140, y141, y142, y143, y144, y145, y146, y147, y148, y149, y150, y151, y152, y153, y154, y155, y156, y157, y158, y159, y160, y161, y162, y163, y164, y165, y166, y167, y168, y169, y170, y171, y172, y173, y174, y175, y176, y177, y178, y179, y180, y181, y182, y183, y184, y185, y186, y187, y188, y189, y190, y191, x192, x193, x194, x195, x196, x197, x198, x199, x200, x201, x202, x203, x204, x205, x206, x207, x208, x209, x210, x211, x212, x213, x214, x215, x216, x217, x218, x219, x220, x221, x222, x223, x224, x225, x226, x227, x228, x229, x230, x231, x232, x233], []⟩ wx) := hN
  clear hN
  obtain rfl : nd = ds.length := by
    obtain ⟨a, c, e, -⟩ := hM.slice
    injection e
  have hml : ∀ j, len1 ≤ j → (fun j => qs.getD j false) j = false := fun j hj => getD_lost qs j (by rw [hQ.1]; exact hj)
  refine seqX (fun Q1 n1 r1 _ => ?_)
  go_wp2_with fail
  refine n1 _ _ (blockX (fun Q2 n2 e2 r2 => ?_))
  go_loopw [15, 16] (fun v15 v16 wr => ∃ (i n : Nat) (x y : LS) (Sx Sy : Nat → Prop), v16 = .int .i64 (i : Int) ∧ v15 = .int .i64 (n : Int) ∧ i ≤ 1000 ∧ n ≤ 200 * i ∧ i ≤ len1 + ds.length + 2 ∧ Rounds12 len1 i n x y ∧ x.took = st.took ∧ MRow wr w.heap.size (.slice av ds.length cv) ds ∧ K12 At w g0 g1 x y Sx Sy (fun b => (Value.slice av ds.length cv).ownBlock = some b) wr) (fun _ v16 _ => 1000 - (intOf v16).toNat)
  case atStart => exact ⟨0, 0, st, LS.new N, Tx, Ty, rfl, rfl, Nat.zero_le _, Nat.zero_le _, Nat.zero_le _, hS.begin len1, rfl, hM, hK⟩
  case round =>
    clear hK hM
    obtain ⟨i, n, x, y, Sx, Sy, rfl, rfl, hi, hn, hil, hr, hx, hM, hK⟩ := hrel
    have hx50 : x.took.length ≤ 50 := by rw [hx, hS.len]; exact hd
    refine seqX (fun Q3 n3 r3 e3 => lk_t21 hlen hd ?_ ?_)
    · intros
      rename_i hlt1 hlt2
      refine n3 _ _ (seqX (fun Q4 n4 r4 e4 => blockX (fun Q5 n5 e5 r5 => ?_)))
      obtain ⟨hall1, hall2⟩ := round_all12 hr (fun j => qs.getD j false) hx50
      obtain ⟨hr2, hx2⟩ := hr.next hml
      refine seqX (fun Q6 n6 r6 e6 => lk_p23 A hK.e0 ?_)
      intro w1
      intros
      rename_i hT1
      obtain ⟨S1, hE1⟩ := hT1
      have hK1 := hK.onX A.toEndKept11 hE1
      have hM1 := hM.kept (hK.kept hE1.2.1)
      refine n6 _ _ (seqX (fun Q7 n7 r7 e7 => lk_p24 A hK1.e0 ?_))
      intro ao nf cf S2 w2
      intros
      rename_i hE2 hF2 hu2
      have hK2 := hK1.more A.toEndKept11 hE2 hF2 hu2
      have hM2 := hM1.kept (hK1.kept hE2.2.1)
      have hl2 := outF_len12 x.ticked (A.foot hK1.e0).1
      refine n7 _ _ (seqX (fun Q8 n8 r8 e8 => seqX (fun Q9 n9 r9 e9 => lk_p25 ?_)))
      intros
      refine n9 _ _ (lk_l3 A hQ hK2.turn hM2 hF2.zero12 hall1 (by omega) (by omega) ?_)
      intro S3 w3
      intros
      rename_i hK3 hM3
      refine n8 _ _ (seqX (fun Q10 n10 r10 e10 => lk_p31 A hK3.e0 ?_))
      intro ap ng cg S4 w4
      intros
      rename_i hE4 hF4 hu4
      have hK4 := hK3.more A.toEndKept11 hE4 hF4 hu4
      have hM4 := hM3.kept (hK3.kept hE4.2.1)
      have hl4 := outF_len12 _ (A.foot hK3.e0).1
      refine n10 _ _ (seqX (fun Q11 n11 r11 e11 => lk_p32 ?_))
      intros
      refine n11 _ _ (lk_l4 A hQ hK4.turn hM4 hF4.zero12 hall2 (by omega) (by omega) ?_)
      intro S5 w5
      intros
      rename_i hK5 hM5
      refine n5 _ _ (n4 _ _ (lk_p22 (by omega) ?_))
      intros
      dsimp only [Exit.then]
      go_roundw
      case rel => exact ⟨i + 1, tN (fun j => qs.getD j false) n x y, tX (fun j => qs.getD j false) n x y, tY (fun j => qs.getD j false) n x y, S5, S4, rfl, rfl, by omega, (by unfold tN; omega), by omega, hr2, hx2.trans hx, hM5, hK5⟩
      case measure => simp [intOf]; omega
    · intros
      rename_i hend
      have hE := hr.end (by rw [hx, hS.len]; omega)
      rw [hx] at hE
      exact e3 _ _ _ (e2 _ _ (HN.out y Sx Sy x _ _ _ _ _ _ _ _ _ _ _ _ _ _ _ _ _ _ _ _ _ _ _ _ _ _ _ _ _ _ _ _ _ _ _ _ _ _ _ _ _ _ _ _ _ _ _ _ _ _ _ _ _ _ _ _ _ _ _ _ _ _ _ _ _ _ _ _ _ _ _ _ _ _ _ _ _ hE hr.toldY hM hK))

end Go.Proofs.Ytnbdbahfekneoab

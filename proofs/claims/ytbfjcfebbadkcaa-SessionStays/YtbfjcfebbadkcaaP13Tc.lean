/-
  SessionStays: its walk. Written by mk/p13laws.py.
-/
import Derived.Test.YtbfjcfebbadkcaaP13Tb
namespace Go.Proofs.Ytbfjcfebbadkcaa
open Go.RowKit

set_option maxRecDepth 100000 in
set_option maxHeartbeats 12800000 in
theorem st_l1 {x0 x2 x3 x4 x5 x6 x8 x10 x11 x12 x13 x14 x15 x16 x17 x18 x19 x20 x21 x22 x23 x24 x25 x26 x27 x28 x29 x30 x31 x32 x33 x34 x35 x36 x37 x38 x39 x40 x41 x42 x43 x44 x45 x46 x47 x48 x49 x50 x51 x52 x53 x54 x55 x56 x57 x58 x59 x60 x61 x62 x63 x64 x65 x66 x67 x68 x69 x70 x71 x72 x73 x74 x75 x76 x77 x78 x79 x80 x81 x82 x83 x84 x85 x86 x87 x88 x89 x90 x91 x92 x93 x94 x95 x96 x97 x98 x99 x100 x101 x102 x103 x104 x105 x106 x107 x108 x109 x110 x111 x112 x113 x114 x115 x116 x117 x118 x119 x120 x121 x122 x123 x124 x125 x126 x127 x128 x129 : Value} {Q : Exit → Act → World → Prop} {At : World → Nat → SS → (Nat → Prop) → Prop} {w W : World} {a : Option Addr} {len cap g0 g1 : Nat} {st : SS} (A : SesOk13 ⟨6, 15, 17, 19, 21, 14, 9, 11⟩ At) (hA : ActsIn w a len) (h : T13 At RSes w g0 g1 st st W)
    (hN : ∀ (s r : SS) (wx : World) (y13 y63 y64 y65 y66 y67 y68 y69 y70 y71 y72 y73 y74 y75 y76 y77 y78 y79 : Value), T13 At RSes w g0 g1 s r wx → Q .normal ⟨#[x0, .slice a len cap, x2, x3, x4, x5, x6, .pointer (some ⟨g0, 0, none⟩), x8, .pointer (some ⟨g1, 0, none⟩), x10, x11, x12, y13, x14, x15, x16, x17, x18, x19, x20, x21, x22, x23, x24, x25, x26, x27, x28, x29, x30, x31, x32, x33, x34, x35, x36, x37, x38, x39, x40, x41, x42, x43, x44, x45, x46, x47, x48, x49, x50, x51, x52, x53, x54, x55, x56, x57, x58, x59, x60, x61, x62, y63, y64, y65, y66, y67, y68, y69, y70, y71, y72, y73, y74, y75, y76, y77, y78, y79, x80, x81, x82, x83, x84, x85, x86, x87, x88, x89, x90, x91, x92, x93, x94, x95, x96, x97, x98, x99, x100, x101, x102, x103, x104, x105, x106, x107, x108, x109, x110, x111, x112, x113, x114, x115, x116, x117, x118, x119, x120, x121, x122, x123, x124, x125, x126, x127, x128, x129], []⟩ wx) :
    Code.wp Try.prog ((Try.f4.body.bind (pcAt 6)).getD .skip) Q ⟨#[x0, .slice a len cap, x2, x3, x4, x5, x6, .pointer (some ⟨g0, 0, none⟩), x8, .pointer (some ⟨g1, 0, none⟩), x10, x11, x12, x13, x14, x15, x16, x17, x18, x19, x20, x21, x22, x23, x24, x25, x26, x27, x28, x29, x30, x31, x32, x33, x34, x35, x36, x37, x38, x39, x40, x41, x42, x43, x44, x45, x46, x47, x48, x49, x50, x51, x52, x53, x54, x55, x56, x57, x58, x59, x60, x61, x62, x63, x64, x65, x66, x67, x68, x69, x70, x71, x72, x73, x74, x75, x76, x77, x78, x79, x80, x81, x82, x83, x84, x85, x86, x87, x88, x89, x90, x91, x92, x93, x94, x95, x96, x97, x98, x99, x100, x101, x102, x103, x104, x105, x106, x107, x108, x109, x110, x111, x112, x113, x114, x115, x116, x117, x118, x119, x120, x121, x122, x123, x124, x125, x126, x127, x128, x129], []⟩ W := by
  conv => arg 2; whnf
  have HN : Hid (∀ (s r : SS) (wx : World) (y13 y63 y64 y65 y66 y67 y68 y69 y70 y71 y72 y73 y74 y75 y76 y77 y78 y79 : Value), T13 At RSes w g0 g1 s r wx → Q .normal ⟨#[x0, .slice a len cap, x2, x3, x4, x5, x6, .pointer (some ⟨g0, 0, none⟩), x8, .pointer (some ⟨g1, 0, none⟩), x10, x11, x12, y13, x14, x15, x16, x17, x18, x19, x20, x21, x22, x23, x24, x25, x26, x27, x28, x29, x30, x31, x32, x33, x34, x35, x36, x37, x38, x39, x40, x41, x42, x43, x44, x45, x46, x47, x48, x49, x50, x51, x52, x53, x54, x55, x56, x57, x58, x59, x60, x61, x62, y63, y64, y65, y66, y67, y68, y69, y70, y71, y72, y73, y74, y75, y76, y77, y78, y79, x80, x81, x82, x83, x84, x85, x86, x87, x88, x89, x90, x91, x92, x93, x94, x95, x96, x97, x98, x99, x100, x101, x102, x103, x104, x105, x106, x107, x108, x109, x110, x111, x112, x113, x114, x115, x116, x117, x118, x119, x120, x121, x122, x123, x124, x125, x126, x127, x128, x129], []⟩ wx) := hN
  clear hN
  refine pcSeq (fun Q1 n1 r1 _ => ?_)
  go_wp2_with fail
  refine n1 _ _ (pcBlock (fun Q2 n2 e2 r2 => ?_))
  go_loopw [13] (fun v13 wr => ∃ (i : Nat) (s r : SS), v13 = .int .i64 (i : Int) ∧ i ≤ 200 ∧ T13 At RSes w g0 g1 s r wr) (fun v13 _ => 200 - (intOf v13).toNat)
  case atStart => exact ⟨0, st, st, rfl, by omega, h⟩
  case round =>
    clear h
    obtain ⟨i, s, r, rfl, hi, hT⟩ := hrel
    refine pcSeq (fun Q3 n3 r3 e3 => st_t7 ?_ ?_)
    · intros
      rename_i hlt hlt2
      obtain ⟨x, hcx, hxi⟩ := hA i hlt
      obtain ⟨b, off, rfl, c0, c1, c2, c3, c4⟩ := hcx.below hT.below
      refine n3 _ _ (pcSeq (fun Q4 n4 r4 e4 => pcBlock (fun Q5 n5 e5 r5 => st_p9 A hlt c0 c1 c2 c3 c4 hxi hT ?_)))
      intro w1
      intros
      rename_i hT1
      refine n5 _ _ (n4 _ _ (st_p8 (by omega) ?_))
      intros
      dsimp only [Exit.then]
      go_roundw
      case rel => exact ⟨i + 1, _, _, rfl, by omega, hT1⟩
      case measure => simp [intOf]; omega
    · intros
      exact e3 _ _ _ (e2 _ _ (HN.out s r _ _ _ _ _ _ _ _ _ _ _ _ _ _ _ _ _ _ _ hT))

set_option maxRecDepth 100000 in
set_option maxHeartbeats 12800000 in
theorem st_l2 {x0 x1 x3 x4 x5 x6 x8 x10 x11 x12 x13 x16 x17 x18 x19 x20 x21 x22 x23 x24 x25 x26 x27 x28 x29 x30 x31 x32 x33 x34 x35 x36 x37 x38 x39 x40 x41 x42 x43 x44 x45 x46 x47 x48 x49 x50 x51 x52 x53 x54 x55 x56 x57 x58 x59 x60 x61 x62 x63 x64 x65 x66 x67 x68 x69 x70 x71 x72 x73 x74 x75 x76 x77 x78 x79 x80 x81 x82 x83 x84 x85 x86 x87 x88 x89 x90 x91 x92 x93 x94 x95 x96 x97 x98 x99 x100 x101 x102 x103 x104 x105 x106 x107 x108 x109 x110 x111 x112 x113 x114 x115 x116 x117 x118 x119 x120 x121 x122 x123 x124 x125 x126 x127 x128 x129 : Value} {Q : Exit → Act → World → Prop} {At : World → Nat → SS → (Nat → Prop) → Prop} {w W : World} {a : Option Addr} {len cap g0 g1 : Nat} {s r : SS} (A : SesOk13 ⟨6, 15, 17, 19, 21, 14, 9, 11⟩ At) (hA : ActsIn w a len) (hs : s.phase ≠ 0) (h : T13 At RSes w g0 g1 s r W)
    (hN : ∀ (wx : World) (y6 y16 y17 y18 y19 y93 y94 y95 y96 y97 y98 y99 y100 y101 y102 y103 y104 y105 y106 y107 y108 y109 y110 y111 y112 y113 y114 y115 y116 y117 y118 y119 y120 y121 y122 y123 y124 y125 y126 y127 y128 y129 : Value), Below w.heap.size w wx → Q .normal ⟨#[x0, x1, .slice a len cap, x3, x4, x5, y6, .pointer (some ⟨g0, 0, none⟩), x8, .pointer (some ⟨g1, 0, none⟩), x10, x11, x12, x13, .int .i64 (s.phase : Int), .int .i64 (s.why : Int), y16, y17, y18, y19, x20, x21, x22, x23, x24, x25, x26, x27, x28, x29, x30, x31, x32, x33, x34, x35, x36, x37, x38, x39, x40, x41, x42, x43, x44, x45, x46, x47, x48, x49, x50, x51, x52, x53, x54, x55, x56, x57, x58, x59, x60, x61, x62, x63, x64, x65, x66, x67, x68, x69, x70, x71, x72, x73, x74, x75, x76, x77, x78, x79, x80, x81, x82, x83, x84, x85, x86, x87, x88, x89, x90, x91, x92, y93, y94, y95, y96, y97, y98, y99, y100, y101, y102, y103, y104, y105, y106, y107, y108, y109, y110, y111, y112, y113, y114, y115, y116, y117, y118, y119, y120, y121, y122, y123, y124, y125, y126, y127, y128, y129], []⟩ wx) :
    Code.wp Try.prog ((Try.f4.body.bind (pcAt 14)).getD .skip) Q ⟨#[x0, x1, .slice a len cap, x3, x4, x5, x6, .pointer (some ⟨g0, 0, none⟩), x8, .pointer (some ⟨g1, 0, none⟩), x10, x11, x12, x13, .int .i64 (s.phase : Int), .int .i64 (s.why : Int), x16, x17, x18, x19, x20, x21, x22, x23, x24, x25, x26, x27, x28, x29, x30, x31, x32, x33, x34, x35, x36, x37, x38, x39, x40, x41, x42, x43, x44, x45, x46, x47, x48, x49, x50, x51, x52, x53, x54, x55, x56, x57, x58, x59, x60, x61, x62, x63, x64, x65, x66, x67, x68, x69, x70, x71, x72, x73, x74, x75, x76, x77, x78, x79, x80, x81, x82, x83, x84, x85, x86, x87, x88, x89, x90, x91, x92, x93, x94, x95, x96, x97, x98, x99, x100, x101, x102, x103, x104, x105, x106, x107, x108, x109, x110, x111, x112, x113, x114, x115, x116, x117, x118, x119, x120, x121, x122, x123, x124, x125, x126, x127, x128, x129], []⟩ W := by
  conv => arg 2; whnf
  have HN : Hid (∀ (wx : World) (y6 y16 y17 y18 y19 y93 y94 y95 y96 y97 y98 y99 y100 y101 y102 y103 y104 y105 y106 y107 y108 y109 y110 y111 y112 y113 y114 y115 y116 y117 y118 y119 y120 y121 y122 y123 y124 y125 y126 y127 y128 y129 : Value), Below w.heap.size w wx → Q .normal ⟨#[x0, x1, .slice a len cap, x3, x4, x5, y6, .pointer (some ⟨g0, 0, none⟩), x8, .pointer (some ⟨g1, 0, none⟩), x10, x11, x12, x13, .int .i64 (s.phase : Int), .int .i64 (s.why : Int), y16, y17, y18, y19, x20, x21, x22, x23, x24, x25, x26, x27, x28, x29, x30, x31, x32, x33, x34, x35, x36, x37, x38, x39, x40, x41, x42, x43, x44, x45, x46, x47, x48, x49, x50, x51, x52, x53, x54, x55, x56, x57, x58, x59, x60, x61, x62, x63, x64, x65, x66, x67, x68, x69, x70, x71, x72, x73, x74, x75, x76, x77, x78, x79, x80, x81, x82, x83, x84, x85, x86, x87, x88, x89, x90, x91, x92, y93, y94, y95, y96, y97, y98, y99, y100, y101, y102, y103, y104, y105, y106, y107, y108, y109, y110, y111, y112, y113, y114, y115, y116, y117, y118, y119, y120, y121, y122, y123, y124, y125, y126, y127, y128, y129], []⟩ wx) := hN
  clear hN
  refine pcSeq (fun Q1 n1 r1 _ => ?_)
  go_wp2_with fail
  refine n1 _ _ (pcBlock (fun Q2 n2 e2 r2 => ?_))
  go_loopw [16] (fun v16 wr => ∃ (i : Nat) (r : SS), v16 = .int .i64 (i : Int) ∧ i ≤ 200 ∧ T13 At RSes w g0 g1 s r wr) (fun v16 _ => 200 - (intOf v16).toNat)
  case atStart => exact ⟨0, r, rfl, by omega, h⟩
  case round =>
    clear h
    obtain ⟨i, r', rfl, hi, hT⟩ := hrel
    refine pcSeq (fun Q3 n3 r3 e3 => st_t15 ?_ ?_)
    · intros
      rename_i hlt hlt2
      obtain ⟨x, hcx, hxi⟩ := hA i hlt
      obtain ⟨b, off, rfl, c0, c1, c2, c3, c4⟩ := hcx.below hT.below
      refine n3 _ _ (pcSeq (fun Q4 n4 r4 e4 => pcBlock (fun Q5 n5 e5 r5 => pcSeq (fun Q6 n6 r6 e6 => st_p17 A hlt c0 c1 c2 c3 c4 hxi hT ?_))))
      intro w1
      intros
      rename_i hT1
      rw [SS.act_over hs] at hT1
      obtain ⟨T0, T1, hK⟩ := hT1
      refine n6 _ _ (pcSeq (fun Q7 n7 r7 e7 => st_p18 A hK.e0 ?_))
      intro w2
      intros
      rename_i hb2
      have hK2 := hK.grow A.toSesKept13 rses_kept hb2
      refine n7 _ _ (pcSeq (fun Q8 n8 r8 e8 => st_p19 A hK2.e0 ?_))
      intro a' n' c' w3
      intros
      rename_i hn3 _ hb3
      have hK3 := hK2.grow A.toSesKept13 rses_kept hb3
      rw [SS.who_over hs] at hn3
      subst hn3
      refine n8 _ _ (st_p20 ?_)
      intros
      refine n5 _ _ (n4 _ _ (st_p16 (by omega) ?_))
      intros
      dsimp only [Exit.then]
      go_roundw
      case rel => exact ⟨i + 1, _, rfl, by omega, T0, T1, hK3⟩
      case measure => simp [intOf]; omega
    · intros
      exact e3 _ _ _ (e2 _ _ (HN.out _ _ _ _ _ _ _ _ _ _ _ _ _ _ _ _ _ _ _ _ _ _ _ _ _ _ _ _ _ _ _ _ _ _ _ _ _ _ _ _ _ _ _ hT.below))

set_option maxRecDepth 100000 in
set_option maxHeartbeats 12800000 in
theorem stays13_walk {At : World → Nat → SS → (Nat → Prop) → Prop} (A : SesOk13 ⟨6, 15, 17, 19, 21, 14, 9, 11⟩ At) (l0 l1 l2 : Int) (a0 : Option Addr) (len0 cap0 : Nat) (a1 : Option Addr) (len1 cap1 : Nat) (w : World) (h0 : (-9223372036854775808 ≤ l0 ∧ l0 < 9223372036854775808)) (h1 : (-9223372036854775808 ≤ l1 ∧ l1 < 9223372036854775808)) (h2 : (-9223372036854775808 ≤ l2 ∧ l2 < 9223372036854775808)) (hA : ActsIn w a0 len0) (hM : ActsIn w a1 len1) : Calls Try.prog 4 #[.agg #[.int .i64 l0, .int .i64 l1, .int .i64 l2], .slice a0 len0 cap0, .slice a1 len1 cap1] w fun e w' => e = .returned (.bool true) ∧ Below w.heap.size w w' := by
  go_enter Try.func4, Try.ntmps4
  refine pcSeq (fun Q0 n0 r0 _ => st_p0 ?_)
  have hbl := balloc w (.cells #[.int .i64 l0, .int .i64 l1, .int .i64 l2] 22)
  have e0 : (w.alloc (.cells #[.int .i64 l0, .int .i64 l1, .int .i64 l2] 22)).cell? ⟨w.heap.size, 0, none⟩ = some (.int .i64 l0) := by simp
  have e1 : (w.alloc (.cells #[.int .i64 l0, .int .i64 l1, .int .i64 l2] 22)).cell? ⟨w.heap.size, 1, none⟩ = some (.int .i64 l1) := by simp
  have e2 : (w.alloc (.cells #[.int .i64 l0, .int .i64 l1, .int .i64 l2] 22)).cell? ⟨w.heap.size, 2, none⟩ = some (.int .i64 l2) := by simp
  refine n0 _ _ (pcSeq (fun Q1 n1 r1 _ => st_p1 A h0 h1 h2 e0 e1 e2 ?_ ?_))
  · intro w1
    intros
    rename_i hno hb1
    refine n1 _ _ (pcSeq (fun Q2 n2 r2 _ => st_p2 h0 h1 h2 (bkeep hb1 e0 rfl) (bkeep hb1 e1 rfl) (bkeep hb1 e2 rfl) ?_ ?_))
    · intro w2
      intros
      rename_i _ hb2
      refine n2 _ _ (pcSeq (fun Q3 n3 r3 _ => st_p3 A ?_))
      intro g w3
      intros
      rename_i hb3
      have hB := bthen (bthen (bthen hbl hb1) hb2) hb3
      refine n3 _ _ (pcSeq (fun Q4 n4 r4 _ => st_p4b ?_))
      intros
      exact r4 _ _ (st_ret ⟨rfl, hB⟩)
    · intro g T w2
      intros
      rename_i hye _ _ _
      rw [hno] at hye
      cases hye
  · intro g0 T0 w1
    intros
    rename_i hye q1 hb1 q2
    refine n1 _ _ (pcSeq (fun Q2 n2 r2 _ => st_p2 h0 h1 h2 (bkeep hb1 e0 rfl) (bkeep hb1 e1 rfl) (bkeep hb1 e2 rfl) ?_ ?_))
    · intro w2
      intros
      rename_i hno _
      rw [hno] at hye
      cases hye
    · intro g1 T1 w2
      intros
      rename_i _ q3 hb2 q4
      have hK : K13 At RSes w g0 g1 (SS.new l0.toNat l1.toNat l2.toNat) (SS.new l0.toNat l1.toNat l2.toNat) T0 T1 w2 := ⟨A.toSesKept13.below q1 hb2, q3, fun b e q => by have := (A.foot q1).2 b e; have := q4 b q; omega, fun b e => by
        rcases e with e | e
        · exact Nat.le_trans hbl.size (q2 b e)
        · exact Nat.le_trans (bthen hbl hb1).size (q4 b e), bthen (bthen hbl hb1) hb2⟩
      refine n2 _ _ (pcSeq (fun Q3 n3 r3 _ => st_p3 A ?_))
      intro g w3
      intros
      rename_i hb3
      have hK3 := hK.grow A.toSesKept13 rses_kept hb3
      refine n3 _ _ (pcSeq (fun Q4 n4 r4 _ => st_p4g ?_))
      intros
      refine n4 _ _ (pcSeq (fun Q5 n5 r5 _ => st_l1 A hA ⟨T0, T1, hK3⟩ ?_))
      intro s r w4
      intros
      rename_i hT4
      obtain ⟨S0, S1, hK4⟩ := hT4
      have hF := (A.foot hK4.e0).1
      refine n5 _ _ (pcSeq (fun Q6 n6 r6 _ => st_p10 A hK4.e0 ?_))
      intro w5
      intros
      rename_i hE5
      obtain ⟨S2, hK5⟩ := hK4.on rses_kept hE5
      refine n6 _ _ (pcSeq (fun Q7 n7 r7 _ => st_p11 A hK5.e0 ?_))
      intro w6
      intros
      rename_i hb6
      have hK6 := hK5.grow A.toSesKept13 rses_kept hb6
      have hph := SS.abort_over hF
      refine n7 _ _ (pcSeq (fun Q8 n8 r8 _ => st_p12 hph ?_))
      intros
      refine n8 _ _ (pcSeq (fun Q9 n9 r9 _ => st_l2 A hM (by omega) ⟨S2, S1, hK6⟩ ?_))
      intro w7
      intros
      rename_i hB
      refine n9 _ _ (st_p22 ?_)
      intros
      exact st_ret ⟨rfl, hB⟩

end Go.Proofs.Ytbfjcfebbadkcaa

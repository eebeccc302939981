/-
  SessionPatience: its walk. Written by mk/p13laws.py.
-/
import Derived.Test.YtbfjcfebbadkcaaP13Pb
namespace Go.Proofs.Ytbfjcfebbadkcaa
open Go.RowKit

theorem await_new (a b c : Nat) (p : Int) : (SS.new a b c).awaitE p [1] = 0 ∨ (SS.new a b c).awaitE p [1] = 1 := by
  have h1 : ¬ ((SS.new a b c).phase ≠ 0) := fun h => h rfl
  have h2 : ¬ (([1] : List Int).length = 0) := by decide
  have h3 : ¬ (kindsOk [1] = false) := by decide
  have h4 : ¬ ((SS.new a b c).waitsFor p = true) := fun h => by cases h
  unfold SS.awaitE
  rw [if_neg h1]
  by_cases hp : (SS.new a b c).isPeer p = false
  · rw [if_pos hp]
    exact .inr rfl
  · rw [if_neg hp, if_neg h2, if_neg h3, if_neg h4]
    exact .inl rfl
set_option maxRecDepth 100000 in
set_option maxHeartbeats 12800000 in
theorem sp_l {x0 x4 x5 x6 x8 x10 x11 x12 x13 x15 x16 x17 x18 x19 x20 x21 x22 x23 x24 x25 x26 x27 x28 x29 x30 x31 x32 x33 x34 x35 x36 x37 x38 x39 x40 x41 x42 x43 x44 x45 x46 x47 x48 x49 x50 x51 x52 x53 x54 x55 x56 x57 x58 x59 x60 x61 x62 x63 x64 x65 x66 x67 x68 x69 x70 x71 x72 x73 x74 x75 x76 x77 x78 x79 x80 x81 x82 x83 x84 x85 x86 x87 x88 x89 x90 x91 x92 x93 x94 x95 x96 x97 x98 x99 x100 x101 x102 x103 x104 x105 x106 x107 x108 x109 x110 x111 x112 x113 x114 x115 x116 x117 x118 x119 x120 x121 x122 x123 x124 x125 x126 : Value} {Q : Exit → Act → World → Prop} {At : World → Nat → SS → (Nat → Prop) → Prop} {w W : World} {a : Option Addr} {len cap g0 g1 G q : Nat} {st : SS} {l2 : Int} (A : SesOk13 ⟨6, 15, 17, 19, 21, 14, 9, 11⟩ At) (hA : ActsIn w a len) (e2 : w.cell? ⟨G, 2, none⟩ = some (.int .i64 l2)) (h : T13 At RSes w g0 g1 st st W) (h0 : st.now = 0) (hl : (st.patience : Int) = l2) (hw : st.waits q = some (0, [1]))
    (hN : ∀ (wx : World) (y6 y14 y15 y16 y17 y18 y19 y75 y76 y77 y78 y79 y80 y81 y82 y83 y84 y85 y86 y87 y88 y89 y90 y91 y92 y93 y94 y95 y96 y97 y98 y99 y100 y101 y102 y103 y104 y105 y106 y107 y108 y109 y110 y111 y112 y113 y114 y115 y116 y117 y118 y119 y120 y121 y122 y123 y124 y125 y126 : Value), Below w.heap.size w wx → Q .normal ⟨#[x0, .slice a len cap, .int .i64 (q : Int), .pointer (some ⟨G, 0, none⟩), x4, x5, y6, .pointer (some ⟨g0, 0, none⟩), x8, .pointer (some ⟨g1, 0, none⟩), x10, x11, x12, x13, y14, y15, y16, y17, y18, y19, x20, x21, x22, x23, x24, x25, x26, x27, x28, x29, x30, x31, x32, x33, x34, x35, x36, x37, x38, x39, x40, x41, x42, x43, x44, x45, x46, x47, x48, x49, x50, x51, x52, x53, x54, x55, x56, x57, x58, x59, x60, x61, x62, x63, x64, x65, x66, x67, x68, x69, x70, x71, x72, x73, x74, y75, y76, y77, y78, y79, y80, y81, y82, y83, y84, y85, y86, y87, y88, y89, y90, y91, y92, y93, y94, y95, y96, y97, y98, y99, y100, y101, y102, y103, y104, y105, y106, y107, y108, y109, y110, y111, y112, y113, y114, y115, y116, y117, y118, y119, y120, y121, y122, y123, y124, y125, y126], []⟩ wx) :
    Code.wp Try.prog ((Try.f5.body.bind (pcAt 11)).getD .skip) Q ⟨#[x0, .slice a len cap, .int .i64 (q : Int), .pointer (some ⟨G, 0, none⟩), x4, x5, x6, .pointer (some ⟨g0, 0, none⟩), x8, .pointer (some ⟨g1, 0, none⟩), x10, x11, x12, x13, .int .i64 0, x15, x16, x17, x18, x19, x20, x21, x22, x23, x24, x25, x26, x27, x28, x29, x30, x31, x32, x33, x34, x35, x36, x37, x38, x39, x40, x41, x42, x43, x44, x45, x46, x47, x48, x49, x50, x51, x52, x53, x54, x55, x56, x57, x58, x59, x60, x61, x62, x63, x64, x65, x66, x67, x68, x69, x70, x71, x72, x73, x74, x75, x76, x77, x78, x79, x80, x81, x82, x83, x84, x85, x86, x87, x88, x89, x90, x91, x92, x93, x94, x95, x96, x97, x98, x99, x100, x101, x102, x103, x104, x105, x106, x107, x108, x109, x110, x111, x112, x113, x114, x115, x116, x117, x118, x119, x120, x121, x122, x123, x124, x125, x126], []⟩ W := by
  conv => arg 2; whnf
  have HN : Hid (∀ (wx : World) (y6 y14 y15 y16 y17 y18 y19 y75 y76 y77 y78 y79 y80 y81 y82 y83 y84 y85 y86 y87 y88 y89 y90 y91 y92 y93 y94 y95 y96 y97 y98 y99 y100 y101 y102 y103 y104 y105 y106 y107 y108 y109 y110 y111 y112 y113 y114 y115 y116 y117 y118 y119 y120 y121 y122 y123 y124 y125 y126 : Value), Below w.heap.size w wx → Q .normal ⟨#[x0, .slice a len cap, .int .i64 (q : Int), .pointer (some ⟨G, 0, none⟩), x4, x5, y6, .pointer (some ⟨g0, 0, none⟩), x8, .pointer (some ⟨g1, 0, none⟩), x10, x11, x12, x13, y14, y15, y16, y17, y18, y19, x20, x21, x22, x23, x24, x25, x26, x27, x28, x29, x30, x31, x32, x33, x34, x35, x36, x37, x38, x39, x40, x41, x42, x43, x44, x45, x46, x47, x48, x49, x50, x51, x52, x53, x54, x55, x56, x57, x58, x59, x60, x61, x62, x63, x64, x65, x66, x67, x68, x69, x70, x71, x72, x73, x74, y75, y76, y77, y78, y79, y80, y81, y82, y83, y84, y85, y86, y87, y88, y89, y90, y91, y92, y93, y94, y95, y96, y97, y98, y99, y100, y101, y102, y103, y104, y105, y106, y107, y108, y109, y110, y111, y112, y113, y114, y115, y116, y117, y118, y119, y120, y121, y122, y123, y124, y125, y126], []⟩ wx) := hN
  clear hN
  refine pcSeq (fun Q1 n1 r1 _ => ?_)
  go_wp2_with fail
  refine n1 _ _ (pcBlock (fun Q2 n2 e2' r2 => ?_))
  go_loopw [14, 15] (fun v14 v15 wr => ∃ (i : Nat) (s : SS), v15 = .int .i64 (i : Int) ∧ v14 = .int .i64 (s.now : Int) ∧ i ≤ 200 ∧ T13 At RSes w g0 g1 s s wr ∧ (s.patience : Int) = l2 ∧ (s.phase = 0 → s.waits q = some (0, [1]))) (fun _ v15 _ => 200 - (intOf v15).toNat)
  case atStart => exact ⟨0, st, rfl, by rw [h0]; rfl, by omega, h, hl, fun _ => hw⟩
  case round =>
    clear h h0 hl hw
    obtain ⟨i, s, rfl, rfl, hi, hT, hl, hw⟩ := hrel
    refine pcSeq (fun Q3 n3 r3 e3 => sp_t12 ?_ ?_)
    · intros
      rename_i hlt hlt2
      obtain ⟨x, hcx, hxi⟩ := hA i hlt
      obtain ⟨b, off, rfl, c0, c1, c2, c3, c4⟩ := hcx.below hT.below
      refine n3 _ _ (pcSeq (fun Q4 n4 r4 e4 => pcBlock (fun Q5 n5 e5 r5 => pcSeq (fun Q6 n6 r6 e6 => sp_p14 hlt c0 c1 c2 c3 c4 ?_))))
      intros
      have hb1 := balloc wr (.cells #[.int .i64 x.d, .int .i64 x.p, .int .i64 x.n, .int .i64 x.a, .slice x.ka x.kl x.kc] 34)
      obtain ⟨T0, T1, hK⟩ := hT
      have hK1 := hK.grow A.toSesKept13 rses_kept hb1
      have hT1 : T13 At RSes w g0 g1 s s (wr.alloc (.cells #[.int .i64 x.d, .int .i64 x.p, .int .i64 x.n, .int .i64 x.a, .slice x.ka x.kl x.kc] 34)) := ⟨T0, T1, hK1⟩
      refine n6 _ _ (pcSeq (fun Q7 n7 r7 e7 => sp_p15 (x := x) (by simp) (by simp) ?_ ?_))
      · intros
        rename_i hnot
        obtain ⟨hF, cur, hc⟩ := hK1.e1
        refine n7 _ _ (pcSeq (fun Q8 n8 r8 e8 => sp_p16 ((hc.cell 3).trans hc.c3) ?_))
        intros
        refine n8 _ _ (pcSeq (fun Q9 n9 r9 e9 => sp_p17 A (x := x) (by simp) (by simp) (by simp) (by simp) (by simp) hxi hT1 ?_))
        intro w2
        intros
        rename_i hT2
        obtain ⟨S0, S1, hK2⟩ := hT2
        obtain ⟨hF2, cur2, hc2⟩ := hK2.e1
        have hnw := SS.act_now (s := s) x.d x.p x.n x.a x.ks
        refine n9 _ _ (pcSeq (fun Q10 n10 r10 e10 => sp_p18 ((hc2.cell 3).trans hc2.c3) hF.tim hF2.tim ?_))
        intros
        refine n10 _ _ (pcSeq (fun Q11 n11 r11 e11 => sp_p19 A hK2.e0 ?_))
        intro w3
        intros
        rename_i hb3
        have hK3 := hK2.grow A.toSesKept13 rses_kept hb3
        have hkeep : (s.act x.d x.p x.n x.a x.ks).phase = 0 → (s.act x.d x.p x.n x.a x.ks).waits q = some (0, [1]) := fun hph => by
          by_cases c : s.phase = 0
          · rcases SS.act_waits (hw c) x.d x.p x.n x.a x.ks hnot with r | r
            · exact absurd hph r
            · exact r
          · rw [SS.act_over c] at hph
            exact absurd hph c
        refine n11 _ _ (sp_p20 (bkeep hK3.below e2 rfl) (fun hph => ?_) ?_)
        · have := (hF2.wai q _ (hkeep hph)).2.2
          rw [hnw.2] at this
          simp at this
          omega
        · intros
          refine n5 _ _ (n4 _ _ (sp_p13 (by omega) ?_))
          intros
          dsimp only [Exit.then]
          go_roundw
          case rel => exact ⟨i + 1, s.act x.d x.p x.n x.a x.ks, rfl, rfl, by omega, ⟨S0, S1, hK3⟩, by rw [hnw.2]; exact hl, hkeep⟩
          case measure => simp [intOf]; omega
      · intros
        refine e7 _ _ _ (e5 _ _ (n4 _ _ (sp_p13 (by omega) ?_)))
        intros
        dsimp only [Exit.then]
        go_roundw
        case rel => exact ⟨i + 1, s, rfl, rfl, by omega, hT1, hl, hw⟩
        case measure => simp [intOf]; omega
    · intros
      exact e3 _ _ _ (e2' _ _ (HN.out _ _ _ _ _ _ _ _ _ _ _ _ _ _ _ _ _ _ _ _ _ _ _ _ _ _ _ _ _ _ _ _ _ _ _ _ _ _ _ _ _ _ _ _ _ _ _ _ _ _ _ _ _ _ _ _ _ _ _ _ hT.below))

set_option maxRecDepth 100000 in
set_option maxHeartbeats 12800000 in
theorem patience13_walk {At : World → Nat → SS → (Nat → Prop) → Prop} (A : SesOk13 ⟨6, 15, 17, 19, 21, 14, 9, 11⟩ At) (l0 l1 l2 : Int) (a0 : Option Addr) (len0 cap0 : Nat) (p : Int) (w : World) (h0 : (-9223372036854775808 ≤ l0 ∧ l0 < 9223372036854775808)) (h1 : (-9223372036854775808 ≤ l1 ∧ l1 < 9223372036854775808)) (h2 : (-9223372036854775808 ≤ l2 ∧ l2 < 9223372036854775808)) (hA : ActsIn w a0 len0) (hp : (-9223372036854775808 ≤ p ∧ p < 9223372036854775808)) : Calls Try.prog 5 #[.agg #[.int .i64 l0, .int .i64 l1, .int .i64 l2], .slice a0 len0 cap0, .int .i64 p] w fun e w' => e = .returned (.bool true) ∧ Below w.heap.size w w' := by
  go_enter Try.func5, Try.ntmps5
  refine pcSeq (fun Q0 n0 r0 _ => sp_p0 ?_)
  have hbl := balloc w (.cells #[.int .i64 l0, .int .i64 l1, .int .i64 l2] 22)
  have e0 : (w.alloc (.cells #[.int .i64 l0, .int .i64 l1, .int .i64 l2] 22)).cell? ⟨w.heap.size, 0, none⟩ = some (.int .i64 l0) := by simp
  have e1 : (w.alloc (.cells #[.int .i64 l0, .int .i64 l1, .int .i64 l2] 22)).cell? ⟨w.heap.size, 1, none⟩ = some (.int .i64 l1) := by simp
  have e2 : (w.alloc (.cells #[.int .i64 l0, .int .i64 l1, .int .i64 l2] 22)).cell? ⟨w.heap.size, 2, none⟩ = some (.int .i64 l2) := by simp
  refine n0 _ _ (pcSeq (fun Q1 n1 r1 _ => sp_p1 A h0 h1 h2 e0 e1 e2 ?_ ?_))
  · intro w1
    intros
    rename_i hno hb1
    refine n1 _ _ (pcSeq (fun Q2 n2 r2 _ => sp_p2 h0 h1 h2 (bkeep hb1 e0 rfl) (bkeep hb1 e1 rfl) (bkeep hb1 e2 rfl) ?_ ?_))
    · intro w2
      intros
      rename_i _ hb2
      refine n2 _ _ (pcSeq (fun Q3 n3 r3 _ => sp_p3 A ?_))
      intro g w3
      intros
      rename_i hb3
      have hB := bthen (bthen (bthen hbl hb1) hb2) hb3
      refine n3 _ _ (pcSeq (fun Q4 n4 r4 _ => sp_p4b ?_))
      intros
      exact r4 _ _ (sp_ret ⟨rfl, hB⟩)
    · intro g T w2
      intros
      rename_i hye _ _ _
      rw [hno] at hye
      cases hye
  · intro g0 T0 w1
    intros
    rename_i hye q1 hb1 q2
    refine n1 _ _ (pcSeq (fun Q2 n2 r2 _ => sp_p2 h0 h1 h2 (bkeep hb1 e0 rfl) (bkeep hb1 e1 rfl) (bkeep hb1 e2 rfl) ?_ ?_))
    · intro w2
      intros
      rename_i hno _
      rw [hno] at hye
      cases hye
    · intro g1 T1 w2
      intros
      rename_i _ q3 hb2 q4
      have hK : K13 At RSes (w.alloc (.cells #[.int .i64 l0, .int .i64 l1, .int .i64 l2] 22)) g0 g1 (SS.new l0.toNat l1.toNat l2.toNat) (SS.new l0.toNat l1.toNat l2.toNat) T0 T1 w2 := ⟨A.toSesKept13.below q1 hb2, q3, fun b e q => by have := (A.foot q1).2 b e; have := q4 b q; omega, fun b e => by
        rcases e with e | e
        · exact q2 b e
        · exact Nat.le_trans hb1.size (q4 b e), bthen hb1 hb2⟩
      refine n2 _ _ (pcSeq (fun Q3 n3 r3 _ => sp_p3 A ?_))
      intro g w3
      intros
      rename_i hb3
      have hK3 := hK.grow A.toSesKept13 rses_kept hb3
      refine n3 _ _ (pcSeq (fun Q4 n4 r4 _ => sp_p4g ?_))
      intros
      refine n4 _ _ (pcSeq (fun Q5 n5 r5 _ => sp_p6 A hp hK3.e0 ?_))
      intro w4
      intros
      rename_i hE4
      have hb3' := balloc w3 (.cells #[.int .i64 1] 3)
      obtain ⟨S0, hK4⟩ := (hK3.grow A.toSesKept13 rses_kept hb3').on rses_kept hE4
      refine n5 _ _ (pcSeq (fun Q6 n6 r6 _ => sp_p7 hp hK4.e1 ?_))
      intro w5
      intros
      rename_i hE5
      have hb4' := balloc w4 (.cells #[.int .i64 1] 3)
      obtain ⟨S1, hK5⟩ := (hK4.grow A.toSesKept13 rses_kept hb4').turn.on A.toSesKept13 hE5
      have hst := await_new l0.toNat l1.toNat l2.toNat p
      refine n6 _ _ (pcSeq (fun Q7 n7 r7 _ => sp_p8 hst ?_ ?_))
      · intros
        rename_i hz
        obtain ⟨-, hpe, -⟩ := awaitE_zero hz
        obtain ⟨hp0, -, -, -⟩ := (SS.isPeer_iff _ p).1 hpe
        obtain ⟨q, rfl⟩ : ∃ q : Nat, p = (q : Int) := ⟨p.toNat, by omega⟩
        have hn := (newOk_iff l0 l1 l2).1 hye
        refine n7 _ _ (pcSeq (fun Q8 n8 r8 _ => sp_p10 ?_))
        have hsn : (SS.new l0.toNat l1.toNat l2.toNat).await (q : Int) [1] = (SS.new l0.toNat l1.toNat l2.toNat).put q (some (0, [1])) := by unfold SS.await; rw [if_pos hz]; rfl
        rw [hsn] at hK5
        refine n8 _ _ (pcSeq (fun Q9 n9 r9 _ => sp_l A (w := w.alloc (.cells #[.int .i64 l0, .int .i64 l1, .int .i64 l2] 22)) (q := q) (fun i hi => by
          obtain ⟨x, c1, c2⟩ := hA i hi
          exact ⟨x, c1.below hbl, ⟨c2.dB, c2.pB, c2.nB, c2.aB, c2.kinds.below hbl, c2.nil, c2.few⟩⟩) e2 ⟨S0, S1, hK5.turn⟩ rfl (show ((l2.toNat : Nat) : Int) = l2 by omega) (by show (if q = q then _ else _) = _; rw [if_pos rfl]) ?_))
        intro w6
        intros
        rename_i hB
        refine n9 _ _ (sp_p22 ?_)
        intros
        exact sp_ret ⟨rfl, bthen hbl hB⟩
      · intros
        exact r7 _ _ (sp_ret ⟨rfl, bthen hbl hK5.below⟩)

end Go.Proofs.Ytbfjcfebbadkcaa

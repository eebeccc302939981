/-
  The contract of the document's Decrypt, from that of its Inverse.
-/
import Derived.Test.YtppfkmbclpebkaaGreatRef6B
import Derived.Test.YtppfkmbclpebkaaGreatRef6P
import Derived.Test.YtppfkmbclpebkaaGreatRefA
namespace Go.Proofs.YtppfkmbclpebkaaGreat
open Go.RowKit

/-- What is reckoned is what is hidden. -/
theorem dec_of {n f c i : Nat} (hn : 2 ≤ n) (hi : f * i % n = 1) : Dec n f c ((c ^ f % (n * n) - 1) / n * i % n) := by
  refine ⟨Nat.mod_lt _ (by omega), ?_⟩
  have h1 : (c ^ f % (n * n) - 1) / n = lam n f c := rfl
  rw [h1, Nat.mul_mod, Nat.mod_mod, ← Nat.mul_mod, Nat.mul_assoc, Nat.mul_comm i f, Nat.mul_mod, hi, Nat.mul_one, Nat.mod_mod]
theorem dec_less {n f c : Nat} (hn : 2 ≤ n) (hc : c ^ f % n = 1) : 1 ≤ c ^ f % (n * n) ∧ c ^ f % (n * n) < n * n ∧ (c ^ f % (n * n) - 1) / n < n := by
  obtain ⟨h1, h2⟩ := lam_eq hn hc
  refine ⟨by omega, Nat.mod_lt _ (Nat.mul_pos (by omega) (by omega)), h2⟩

/-- The document tells inverses. -/
def RInvOk : Prop := ∀ (a b : Option Addr) (la ca lb cb : Nat) (zs ns : List Int) (w : World), Nums w a la ca zs → Nums w b lb cb ns → Calls Tryz.prog 70 #[.slice a la ca, .slice b lb cb] w fun e w' => ∃ a' n' c' ls err, e = .returned (.tuple #[.slice a' n' c', .int .i64 err]) ∧ Nums w' a' n' c' ls ∧ ResInv zs ns ls err ∧ Below w.heap.size w w'
theorem inv_told {fs ns ls : List Int} {f n : Nat} {err : Int} (hf : IsN fs f) (hn : IsN ns n) (h2 : 2 ≤ n) (hg : Nat.gcd n f = 1) (h : ResInv fs ns ls err) : ∃ i, IsN ls i ∧ i < n ∧ f * i % n = 1 := by
  unfold ResInv at h
  rw [hf.2.1, hn.2.1, hf.2.2, hn.2.2, if_pos (by simp; omega)] at h
  have e : gz (n : Int) (f : Int) = 1 := by unfold gz; rw [Int.toNat_natCast, Int.toNat_natCast, hg]; rfl
  rw [if_pos e] at h
  obtain ⟨_, hd, hr, hlt, hm⟩ := h
  rw [nv_val hd] at hlt hm
  refine ⟨nv ls, IsN.self hd hr, by omega, ?_⟩
  rw [← Int.natCast_mul, ← Int.natCast_emod] at hm
  omega

set_option maxRecDepth 20000 in
set_option maxHeartbeats 6400000 in
theorem r6decrypt_any (hI : RInvOk) (P Q : Nat) (a : Option Addr) (la ca : Nat) (cs : List Int) (w : World) (p1 : P < 18446744073709551616) (q1 : Q < 18446744073709551616) (h : Nums w a la ca cs) :
    Calls Tryz.prog 32 #[.agg #[.int .u64 (P : Int), .int .u64 (Q : Int)], .slice a la ca] w fun e w' => DecT P Q cs w e w' := by
  have hV := (Below.refl w.heap.size w).alloc (Nat.le_refl _) (.cells #[.int .u64 (P : Int), .int .u64 (Q : Int)] 24)
  have c0 : (w.alloc (.cells #[.int .u64 (P : Int), .int .u64 (Q : Int)] 24)).cell? ⟨w.heap.size, 0, none⟩ = some (.int .u64 (P : Int)) := by simp
  have c1 : (w.alloc (.cells #[.int .u64 (P : Int), .int .u64 (Q : Int)] 24)).cell? ⟨w.heap.size, 1, none⟩ = some (.int .u64 (Q : Int)) := by simp
  have h0 := h.below hV
  clear h
  go_enter Tryz.func32, Tryz.ntmps32
  go_wp2_with fail
  generalize w.alloc (.cells #[.int .u64 (P : Int), .int .u64 (Q : Int)] 24) = V at *
  refine (r6public_any P Q _ p1 q1).mono ?_
  rintro e w1 ⟨na, nl, nc, ns, ne, rfl, hN, hP, hb1⟩
  have hB1 := hV.trans (hb1.mono hV.size)
  have k := h0.below hb1
  replace c0 := bkeep hb1 c0 rfl
  replace c1 := bkeep hb1 c1 rfl
  clear h0 hV hb1
  rcases hP with ⟨hK, hn, rfl⟩ | ⟨hK, rfl, rfl⟩
  · have HK : Hid (KeyOk P Q) := hK
    have hvc := valid_cipher (cs := cs) hK hn
    have H2 := (show Hid _ from r6valid_any _ _ _ _ _ _ _ _ _ hN k)
    rw [hvc] at H2
    clear hvc hK
    cases hv : cipherB P Q cs with
    | false =>
      rw [hv] at H2
      go_wp2_with fail
      refine Calls.mono H2.out ?_
      rintro e w2 ⟨rfl, hb2⟩
      have hB2 := hB1.trans (hb2.mono hB1.size)
      have HR : Hid (DecT P Q cs w (.returned (.tuple #[.slice none 0 0, .int .i64 11])) w2) := ⟨none, 0, 0, [], 11, rfl, Nums.nil _, .inr (.inl ⟨HK.out, hv, rfl, rfl⟩), hB2⟩
      clear H2 hN k c0 c1
      go_wp2
      go_ret2
      exact HR.out
    | true =>
      rw [hv] at H2
      obtain ⟨rc, cp, clt, cg⟩ := (cipherB_iff P Q cs).1 hv
      have hcs := IsN.self k.digs rc
      obtain ⟨-, -, -, hgcd, n1, n2, n3⟩ := HK.out.facts
      have hmN := HK.out.may
      have hE := HK.out.euler cg
      have kP := HK.out.1
      have kQ := HK.out.2.1
      have lP : P < 18446744073709551616 := by omega
      have lQ : Q < 18446744073709551616 := by omega
      go_wp2_with fail
      refine Calls.mono H2.out ?_
      rintro e w2 ⟨rfl, hb2⟩
      have hx := hB1.trans (hb2.mono hB1.size)
      have q0 := bkeep hb2 c0 rfl
      have q1' := bkeep hb2 c1 rfl
      have m := hN.below hb2
      have m' := k.below hb2
      clear H2 hN k c0 c1 hB1 hb2
      obtain ⟨V4, hV4⟩ : ∃ V4, V4 = w2 := ⟨_, rfl⟩
      subst hV4
      have wP : IntKind.u64.wrap ((P : Int) - 1) = ((P - 1 : Nat) : Int) := by rw [wrap64]; omega
      have wQ : IntKind.u64.wrap ((Q : Int) - 1) = ((Q - 1 : Nat) : Int) := by rw [wrap64]; omega
      have HwP : Hid (0 ≤ IntKind.u64.wrap ((P : Int) - 1) ∧ IntKind.u64.wrap ((P : Int) - 1) < 18446744073709551616) := by show _ ∧ _; rw [wP]; omega
      have HwQ : Hid (0 ≤ IntKind.u64.wrap ((Q : Int) - 1) ∧ IntKind.u64.wrap ((Q : Int) - 1) < 18446744073709551616) := by show _ ∧ _; rw [wQ]; omega
      have HOf : Hid (∀ (n : Int) (wx : World), 0 ≤ n ∧ n < 18446744073709551616 → Below V4.heap.size V4 wx → Calls Tryz.prog 40 #[.int .u64 n] wx fun e w' => ∃ pa pn pc, e = .returned (.slice pa pn pc) ∧ (Nums w' pa pn pc (ofZ n) ∧ Below wx.heap.size wx w' ∧ Below V4.heap.size V4 w') ∧ w'.cell? ⟨w.heap.size, 0, none⟩ = some (.int .u64 (P : Int)) ∧ w'.cell? ⟨w.heap.size, 1, none⟩ = some (.int .u64 (Q : Int))) := by
        intro n wx hn hbx
        refine (refOf_any n wx hn).mono ?_
        rintro e w' ⟨pa, pn, pc, rfl, hA, hb⟩
        have hb' := hbx.trans (hb.mono hbx.size)
        exact ⟨pa, pn, pc, rfl, ⟨hA, hb, hb'⟩, bkeep hb' q0 rfl, bkeep hb' q1' rfl⟩
      have HMu : Hid (∀ (a b : Option Addr) (la ca lb cb : Nat) (wx : World), Nums wx a la ca (ofZ (IntKind.u64.wrap ((P : Int) - 1))) → Nums wx b lb cb (ofZ (IntKind.u64.wrap ((Q : Int) - 1))) → Below V4.heap.size V4 wx → Calls Tryz.prog 39 #[.slice a la ca, .slice b lb cb] wx fun e w' => ∃ a' n c ls err, e = .returned (.tuple #[.slice a' n c, .int .i64 err]) ∧ (Nums w' a' n c ls ∧ IsN ls ((P - 1) * (Q - 1)) ∧ Below V4.heap.size V4 w')) := by
        intro a b la ca lb cb wx h1 h2 hbx
        rw [wP] at h1
        rw [wQ] at h2
        refine (refMul_any _ _ _ _ _ _ _ _ _ h1 h2).mono ?_
        rintro e w' ⟨a', n, c, ls, err, rfl, hL, hR, k5⟩
        have hp := IsN.of (show P - 1 < 18446744073709551616 by omega)
        have hq := IsN.of (show Q - 1 < 18446744073709551616 by omega)
        have hr := hR.got hp.2.1 hq.2.1
        rw [hp.2.2, hq.2.2, ← Int.natCast_mul] at hr
        have hle : (P - 1) * (Q - 1) ≤ P * Q := Nat.mul_le_mul (by omega) (by omega)
        exact ⟨a', n, c, ls, err, rfl, hL, (IsN.res hr (by
          have e2 : (18446744073709551616 : Int) ^ 2 ≤ 18446744073709551616 ^ 64 := by decide
          have e1 : (18446744073709551616 : Int) ^ 2 = 340282366920938463463374607431768211456 := by decide
          omega)).1, hbx.trans (k5.mono hbx.size)⟩
      have hPi : 128 ≤ (P : Int) := by omega
      have hQi : 128 ≤ (Q : Int) := by omega
      have hPj : (P : Int) < 1099511627776 := by omega
      have hQj : (Q : Int) < 1099511627776 := by omega
      clear wP wQ hPi hPj hQi hQj
      go_upto_region 7 with fail
      go_cut [9, 10] (fun sv ev wx => ∃ a n c ls err, sv = .slice a n c ∧ ev = .int .i64 err ∧ Nums wx a n c ls ∧ IsN ls ((P - 1) * (Q - 1)) ∧ Below V4.heap.size V4 wx)
      case first =>
        clear HK hx hI m m' hn hcs hE hgcd hmN cg clt
        go_region_with (first
          | (go_at_call 40; refine (HOf.out _ _ ?_ ?_).mono ?_; (first | exact HwP.out | exact HwQ.out); (exact ⟨hA.2.2.os, hA.2.2.tape, hA.2.2.output, hA.2.2.size, hA.2.2.block⟩); rintro e wB ⟨qa, qn, qc, rfl, hB, p2, p3⟩; have hA2 := hA.1.below (w' := wB) ⟨hB.2.1.os, hB.2.1.tape, hB.2.1.output, hB.2.1.size, hB.2.1.block⟩)
          | (go_at_call 40; refine (HOf.out _ _ ?_ ?_).mono ?_; (first | exact HwP.out | exact HwQ.out); (exact ⟨rfl, rfl, rfl, Nat.le_refl _, fun _ _ => rfl⟩); rintro e wA ⟨pa, pn, pc, rfl, hA, p0, p1⟩)
          | (go_at_call 39; refine (HMu.out _ _ _ _ _ _ _ ?_ ?_ ?_).mono ?_; (first | exact hA2.alike (fun _ => rfl) | exact hB.1.alike (fun _ => rfl)); (first | exact hB.1.alike (fun _ => rfl) | exact hA2.alike (fun _ => rfl)); (exact ⟨hB.2.2.os, hB.2.2.tape, hB.2.2.output, hB.2.2.size, hB.2.2.block⟩); rintro e wM ⟨ma, mn, mc, ls, err, rfl, hM⟩))
        all_goals
          clear HOf HMu hA hB hA2
          go_wp2_with fail
          go_meet
          case rel => exact ⟨ma, mn, mc, ls, err, rfl, rfl, hM.1, hM.2.1, ⟨hM.2.2.os, hM.2.2.tape, hM.2.2.output, hM.2.2.size, hM.2.2.block⟩⟩
      case rest =>
        obtain ⟨fa, fl, fc, fs, fe, rfl, rfl, hF, hf, hb3⟩ := hcut
        have hB3 := hx.trans (hb3.mono hx.size)
        have o := m.below hb3
        have o' := m'.below hb3
        clear HOf HMu hx hb3 q0 q1' m m' HwP HwQ
        obtain ⟨n, hne⟩ : ∃ n, n = P * Q := ⟨_, rfl⟩
        obtain ⟨f, hfe⟩ : ∃ f, f = (P - 1) * (Q - 1) := ⟨_, rfl⟩
        have HR : Hid (∀ (a : Option Addr) (l c : Nat) (ls : List Int) (x : Nat) (w' : World), Dec n f (nv cs) x → IsN ls x → Nums w' a l c ls → Below w.heap.size w w' → DecT P Q cs w (.returned (.tuple #[.slice a l c, .int .i64 0])) w') := fun a l c ls x w' hD hL hN hb => ⟨a, l, c, ls, 0, rfl, hN, .inl ⟨HK.out, hv, rfl, x, by rw [← hne, ← hfe]; exact hD, hL⟩, hb⟩
        have hfle : f ≤ n := by rw [hne, hfe]; exact Nat.mul_le_mul (by omega) (by omega)
        rw [← hne] at hn hgcd n1 n2 n3 hmN hE clt cg
        rw [← hfe] at hf hgcd hE
        have hfl : fs.length ≤ 2 := hf.len (by
          have e : (18446744073709551616 : Int) ^ 2 = 340282366920938463463374607431768211456 := by decide
          omega)
        have hfll := hF.hlen
        clear hne hfe HK hv lP lQ kP kQ p1 q1
        obtain ⟨d1, d2, d3⟩ := dec_less (n := n) (f := f) (c := nv cs) (by omega) hE
        go_wp2_with fail
        refine (r6square_any _ _ _ _ _ _ o hn n2).mono ?_
        rintro e w4 ⟨sa, sl, sc, ss, rfl, hS, hs, hb4⟩
        have hB4 := hB3.trans (hb4.mono hB3.size)
        have p := o.below hb4
        have p' := o'.below hb4
        have hF4 := hF.below hb4
        have HPw := (show Hid _ from power2_any _ _ _ _ _ _ _ _ _ _ _ _ f _ p' hF4 hS (sq_mod hmN hs) (below_mk rc (by rw [hcs.2.2, hs.2.2]; omega)) hf.2.1 (by omega) hf.2.2)
        rw [hcs.2.2, hs.2.2, ← Int.natCast_pow, ← Int.natCast_emod] at HPw
        clear hB3 hb4 o o' hF p'
        obtain ⟨u, hu⟩ : ∃ u, u = nv cs ^ f % (n * n) := ⟨_, rfl⟩
        have HU : Hid (u = nv cs ^ f % (n * n)) := hu
        rw [← hu] at HPw d1 d2 d3
        clear hu
        go_wp2_with fail
        refine Calls.mono HPw.out ?_
        rintro e w5 ⟨ua, ul, uc, us, rfl, hU, ub, uv, hb5⟩
        have hus : IsN us u := ⟨hU.digs, (below_parts ub).1, uv⟩
        have hB5 := hB4.trans (hb5.mono hB4.size)
        have q := p.below hb5
        have hF5 := hF4.below hb5
        clear HPw ub uv hB4 hb5 hS hs p hF4
        go_wp2_with fail
        refine (refOf_any 1 _ (by omega)).mono ?_
        rintro e w6 ⟨oa, ol, oc, rfl, hO, hb6⟩
        have hB6 := hB5.trans (hb6.mono hB5.size)
        have r := q.below hb6
        have hF6 := hF5.below hb6
        have hU6 := hU.below hb6
        clear hB5 hb6 q hF5 hU
        go_wp2_with fail
        refine (refSub_any _ _ _ _ _ _ _ _ _ hU6 hO).mono ?_
        rintro e w7 ⟨ta, tl, tc, ts, te, rfl, hT, hR7, hb7⟩
        have hts : IsN ts (u - 1) := by
          unfold ResSub at hR7
          rw [hus.2.1, isN_one.2.1, if_pos (by rfl), hus.2.2, isN_one.2.2, if_neg (by omega)] at hR7
          have e : ((u : Int) - ((1 : Nat) : Int)) = ((u - 1 : Nat) : Int) := by omega
          rw [e] at hR7
          exact (IsN.res hR7 (by
            have h1 := sq_bd3 n2
            have h2 : (18446744073709551616 : Int) ^ 3 ≤ 18446744073709551616 ^ 64 := by decide
            omega)).1
        have hB7 := hB6.trans (hb7.mono hB6.size)
        have s := r.below hb7
        have hF7 := hF6.below hb7
        clear hB6 hb7 r hF6 hU6 hO hR7 hus
        go_wp2_with fail
        refine (refDiv_any _ _ _ _ _ _ _ _ _ hT s).mono ?_
        rintro e w8 ⟨va, vl, vc, vs', xa, xl, xc, xs, xe, rfl, hVn, -, hR8, hb8⟩
        have hvs : IsN vs' ((u - 1) / n) := by
          unfold ResDiv at hR8
          rw [hts.2.1, hn.2.1, if_pos (by rfl), if_neg (by have := hn.pos (by omega); omega), hts.2.2, hn.2.2] at hR8
          obtain ⟨_, k1, _, k2, _, k3, _⟩ := hR8
          exact ⟨k1, k2, by rw [k3, ← Int.natCast_ediv]⟩
        have hB8 := hB7.trans (hb8.mono hB7.size)
        have t := s.below hb8
        have hF8 := hF7.below hb8
        clear hB7 hb8 s hF7 hT hR8 hts
        go_wp2_with fail
        refine (hI _ _ _ _ _ _ _ _ _ hF8 t).mono ?_
        rintro e w9 ⟨ia, il, ic, is, ie, rfl, hIn, hR9, hb9⟩
        obtain ⟨i, his, hin, hif⟩ := inv_told hf hn (by omega) hgcd hR9
        have hB9 := hB8.trans (hb9.mono hB8.size)
        have x := t.below hb9
        have hV9 := hVn.below hb9
        have HT := (show Hid _ from mtimes_any _ _ _ _ _ _ _ _ _ _ _ _ _ hV9 hIn x (n_mod hmN hn) (below_mk hvs.2.1 (by rw [hvs.2.2, hn.2.2]; omega)) (below_mk his.2.1 (by rw [his.2.2, hn.2.2]; omega)))
        rw [hvs.2.2, his.2.2, hn.2.2, ← Int.natCast_mul, ← Int.natCast_emod] at HT
        have HD := (show Hid _ from dec_of (n := n) (f := f) (c := nv cs) (i := i) (by omega) hif)
        rw [← HU.out] at HD
        clear hB8 hb9 t hF8 hVn hR9 hI hV9 hIn x hif hE HU d1 d2 d3
        go_wp2_with fail
        refine Calls.mono HT.out ?_
        rintro e w10 ⟨ya, yl, yc, ys, rfl, hY, yb, yv, hb10⟩
        have HY : Hid (DecT P Q cs w (.returned (.tuple #[.slice ya yl yc, .int .i64 0])) w10) := HR.out _ _ _ _ _ _ HD.out ⟨hY.digs, (below_parts yb).1, yv⟩ hY (hB9.trans (hb10.mono hB9.size))
        clear HT HD HR hB9 hb10 hY yb yv hvs his
        go_wp2
        go_ret2
        exact HY.out
  · have HR : Hid (DecT P Q cs w (.returned (.tuple #[.slice none 0 0, .int .i64 9])) w1) := ⟨none, 0, 0, [], 9, rfl, Nums.nil _, .inr (.inr ⟨hK, rfl, rfl⟩), hB1⟩
    clear hK hN k
    go_wp2
    go_ret2
    exact HR.out
end Go.Proofs.YtppfkmbclpebkaaGreat

/-
  The contract of package paillier's Decrypt.
-/
import Derived.Test.YtambpcgdaogojabGreatQA
import Derived.Test.YtambpcgdaogojabGreatQPub
import Derived.Test.YtambpcgdaogojabGreatInvC
namespace Go.Proofs.YtambpcgdaogojabGreat
open Go.RowKit

/-- What is reckoned is what is hidden. -/
theorem qdec_of {n f c i : Nat} (hn : 2 ≤ n) (hi : f * i % n = 1) : Dec n f c ((c ^ f % (n * n) - 1) / n * i % n) := by
  refine ⟨Nat.mod_lt _ (by omega), ?_⟩
  have h1 : (c ^ f % (n * n) - 1) / n = lam n f c := rfl
  rw [h1, Nat.mul_mod, Nat.mod_mod, ← Nat.mul_mod, Nat.mul_assoc, Nat.mul_comm i f, Nat.mul_mod, hi, Nat.mul_one, Nat.mod_mod]
theorem qdec_less {n f c : Nat} (hn : 2 ≤ n) (hc : c ^ f % n = 1) : 1 ≤ c ^ f % (n * n) ∧ c ^ f % (n * n) < n * n ∧ (c ^ f % (n * n) - 1) / n < n := by
  obtain ⟨h1, h2⟩ := lam_eq hn hc
  refine ⟨by omega, Nat.mod_lt _ (Nat.mul_pos (by omega) (by omega)), h2⟩
theorem qinv_told {fs ns ls : List Int} {f n : Nat} {err : Int} (hf : IsN fs f) (hn : IsN ns n) (h2 : 2 ≤ n) (hg : Nat.gcd n f = 1) (h : ResInv fs ns ls err) : ∃ i, IsN ls i ∧ i < n ∧ f * i % n = 1 := by
  unfold ResInv at h
  rw [hf.2.1, hn.2.1, hf.2.2, hn.2.2, if_pos (by simp; omega)] at h
  have e : gz (n : Int) (f : Int) = 1 := by unfold gz; rw [Int.toNat_natCast, Int.toNat_natCast, hg]; rfl
  rw [if_pos e] at h
  obtain ⟨_, hd, hr, hlt, hm⟩ := h
  rw [nv_val hd] at hlt hm
  refine ⟨nv ls, IsN.self hd hr, by omega, ?_⟩
  rw [← Int.natCast_mul, ← Int.natCast_emod] at hm
  omega

theorem sinv_any (a b : Option Addr) (la ca lb cb : Nat) (fs ns : List Int) (f n : Nat) (w : World) (h : Nums w a la ca fs) (h' : Nums w b lb cb ns) (hf : IsN fs f) (hn : IsN ns n) (h2 : 2 ≤ n) (hg : Nat.gcd n f = 1) :
    Calls Tryz.prog 13 #[.func (.func 30) #[] #[], .slice a la ca, .slice b lb cb] w fun e w' => SureT (fun ls => ∃ i, IsN ls i ∧ i < n ∧ f * i % n = 1) w e w' := by
  refine sure_any _ _ _ _ _ _ _ _ _ Tryz.call30 ?_
  refine (inverse_of _ _ _ _ _ _ _ _ _ h h').mono ?_
  rintro e w' ⟨a', k, c', ls, err, rfl, hL, hR, hb⟩
  exact ⟨a', k, c', ls, err, rfl, hL, qinv_told hf hn h2 hg hR, hb⟩

set_option maxRecDepth 20000 in
set_option maxHeartbeats 6400000 in
theorem dec_ok6 : DecOk := by
  intro P Q a la ca cs w p1 q1 h
  have hV := (Below.refl w.heap.size w).alloc (Nat.le_refl _) (.cells #[.int .u64 (P : Int), .int .u64 (Q : Int)] 24)
  have c0 : (w.alloc (.cells #[.int .u64 (P : Int), .int .u64 (Q : Int)] 24)).cell? ⟨w.heap.size, 0, none⟩ = some (.int .u64 (P : Int)) := by simp
  have c1 : (w.alloc (.cells #[.int .u64 (P : Int), .int .u64 (Q : Int)] 24)).cell? ⟨w.heap.size, 1, none⟩ = some (.int .u64 (Q : Int)) := by simp
  have h0 := h.below hV
  clear h
  go_enter Tryz.func10, Tryz.ntmps10
  go_wp2_with fail
  generalize w.alloc (.cells #[.int .u64 (P : Int), .int .u64 (Q : Int)] 24) = V at *
  refine (pub_ok6 P Q _ p1 q1).mono ?_
  rintro e w1 ⟨na, nl, nc, ns, ne, rfl, hN, hP, hb1⟩
  have hB1 := hV.trans (hb1.mono hV.size)
  have k := h0.below hb1
  replace c0 := bkeep hb1 c0 rfl
  replace c1 := bkeep hb1 c1 rfl
  clear h0 hV hb1
  rcases hP with ⟨hK, hn, rfl⟩ | ⟨hK, rfl, rfl⟩
  · have HK : Hid (KeyOk P Q) := hK
    have hvc := valid_cipher (cs := cs) hK hn
    have hpub : pubB ns = true := by unfold pubB; rw [hn.2.1, hn.nv, hK.may]; rfl
    have hnd := hN.digs
    clear hK
    go_wp2_with fail
    refine (mkcipher_any _ _ _ _).mono ?_
    rintro e w1' ⟨rfl, hb1'⟩
    have hB1' := hB1.trans (hb1'.mono hB1.size)
    have hN' := hN.below hb1'
    have k' := k.below hb1'
    replace c0 := bkeep hb1' c0 rfl
    replace c1 := bkeep hb1' c1 rfl
    have HF := (show Hid _ from fault1_any _ _ _ _ _ 11 _ _ _ _ _ _ hN' k' (fun hp => kind_cipher hp hnd))
    rw [hpub, hvc] at HF
    clear hvc hpub hN k hB1 hb1' hnd
    cases hv : cipherB P Q cs with
    | false =>
      rw [hv] at HF
      go_wp2_with fail
      refine Calls.mono HF.out ?_
      rintro e w2 ⟨rfl, hb2⟩
      have hB2 := hB1'.trans (hb2.mono hB1'.size)
      have HR : Hid (DecT P Q cs w (.returned (.tuple #[.slice none 0 0, .int .i64 11])) w2) := ⟨none, 0, 0, [], 11, rfl, Nums.nil _, .inr (.inl ⟨HK.out, hv, rfl, rfl⟩), hB2⟩
      clear HF hN' k' c0 c1
      go_wp2
      go_ret2
      exact HR.out
    | true =>
      rw [hv] at HF
      obtain ⟨rc, cp, clt, cg⟩ := (cipherB_iff P Q cs).1 hv
      have hcs := IsN.self k'.digs rc
      obtain ⟨-, -, -, hgcd, n1, n2, n3⟩ := HK.out.facts
      have hmN := HK.out.may
      have hE := HK.out.euler cg
      have kP := HK.out.1
      have kQ := HK.out.2.1
      have lP : P < 18446744073709551616 := by omega
      have lQ : Q < 18446744073709551616 := by omega
      go_wp2_with fail
      refine Calls.mono HF.out ?_
      rintro e w2 ⟨rfl, hb2⟩
      have hx := hB1'.trans (hb2.mono hB1'.size)
      have q0 := bkeep hb2 c0 rfl
      have q1' := bkeep hb2 c1 rfl
      have m := hN'.below hb2
      have m' := k'.below hb2
      clear HF hN' k' c0 c1 hB1' hb2
      obtain ⟨V4, hV4⟩ : ∃ V4, V4 = w2 := ⟨_, rfl⟩
      subst hV4
      have wP : IntKind.u64.wrap ((P : Int) - 1) = ((P - 1 : Nat) : Int) := by rw [wrap64]; omega
      have wQ : IntKind.u64.wrap ((Q : Int) - 1) = ((Q - 1 : Nat) : Int) := by rw [wrap64]; omega
      have HwP : Hid (0 ≤ IntKind.u64.wrap ((P : Int) - 1) ∧ IntKind.u64.wrap ((P : Int) - 1) < 18446744073709551616) := by show _ ∧ _; rw [wP]; omega
      have HwQ : Hid (0 ≤ IntKind.u64.wrap ((Q : Int) - 1) ∧ IntKind.u64.wrap ((Q : Int) - 1) < 18446744073709551616) := by show _ ∧ _; rw [wQ]; omega
      have HOf : Hid (∀ (n : Int) (wx : World), 0 ≤ n ∧ n < 18446744073709551616 → Below V4.heap.size V4 wx → Calls Tryz.prog 15 #[.int .u64 n] wx fun e w' => ∃ pa pn pc, e = .returned (.slice pa pn pc) ∧ (Nums w' pa pn pc (ofZ n) ∧ Below wx.heap.size wx w' ∧ Below V4.heap.size V4 w') ∧ w'.cell? ⟨w.heap.size, 0, none⟩ = some (.int .u64 (P : Int)) ∧ w'.cell? ⟨w.heap.size, 1, none⟩ = some (.int .u64 (Q : Int))) := by
        intro n wx hn hbx
        refine (of_any n wx hn).mono ?_
        rintro e w' ⟨pa, pn, pc, rfl, hA, hb⟩
        have hb' := hbx.trans (hb.mono hbx.size)
        exact ⟨pa, pn, pc, rfl, ⟨hA, hb, hb'⟩, bkeep hb' q0 rfl, bkeep hb' q1' rfl⟩
      have HMu : Hid (∀ (a b : Option Addr) (la ca lb cb : Nat) (wx : World), Nums wx a la ca (ofZ (IntKind.u64.wrap ((P : Int) - 1))) → Nums wx b lb cb (ofZ (IntKind.u64.wrap ((Q : Int) - 1))) → Below V4.heap.size V4 wx → Calls Tryz.prog 13 #[.func (.func 14) #[] #[], .slice a la ca, .slice b lb cb] wx fun e w' => ∃ a' n c ls, e = .returned (.slice a' n c) ∧ (Nums w' a' n c ls ∧ IsN ls ((P - 1) * (Q - 1)) ∧ Below V4.heap.size V4 w')) := by
        intro a b la ca lb cb wx h1 h2 hbx
        rw [wP] at h1
        rw [wQ] at h2
        have hle : (P - 1) * (Q - 1) ≤ P * Q := Nat.mul_le_mul (by omega) (by omega)
        refine (smul_any _ _ _ _ _ _ _ _ _ _ _ h1 h2 (IsN.of (show P - 1 < 18446744073709551616 by omega)) (IsN.of (show Q - 1 < 18446744073709551616 by omega)) (by
          have e2 : (18446744073709551616 : Int) ^ 2 ≤ 18446744073709551616 ^ 64 := by decide
          have e1 : (18446744073709551616 : Int) ^ 2 = 340282366920938463463374607431768211456 := by decide
          omega)).mono ?_
        rintro e w' ⟨a', n, c, ls, rfl, hL, r1, k5⟩
        exact ⟨a', n, c, ls, rfl, hL, r1, hbx.trans (k5.mono hbx.size)⟩
      clear wP wQ
      go_upto_region 7 with fail
      go_cut [9] (fun sv wx => ∃ a n c ls, sv = .slice a n c ∧ Nums wx a n c ls ∧ IsN ls ((P - 1) * (Q - 1)) ∧ Below V4.heap.size V4 wx)
      case first =>
        clear HK hx m m' hn hcs hE hgcd hmN cg clt
        go_region_with (first
          | (go_at_call 15; refine (HOf.out _ _ ?_ ?_).mono ?_; (first | exact HwP.out | exact HwQ.out); (exact ⟨hA.2.2.os, hA.2.2.tape, hA.2.2.output, hA.2.2.size, hA.2.2.block⟩); rintro e wB ⟨qa, qn, qc, rfl, hB, p2, p3⟩; have hA2 := hA.1.below (w' := wB) ⟨hB.2.1.os, hB.2.1.tape, hB.2.1.output, hB.2.1.size, hB.2.1.block⟩)
          | (go_at_call 15; refine (HOf.out _ _ ?_ ?_).mono ?_; (first | exact HwP.out | exact HwQ.out); (exact ⟨rfl, rfl, rfl, Nat.le_refl _, fun _ _ => rfl⟩); rintro e wA ⟨pa, pn, pc, rfl, hA, p0, p1⟩)
          | (go_at_call 13; refine (HMu.out _ _ _ _ _ _ _ ?_ ?_ ?_).mono ?_; (first | exact hA2.alike (fun _ => rfl) | exact hB.1.alike (fun _ => rfl)); (first | exact hB.1.alike (fun _ => rfl) | exact hA2.alike (fun _ => rfl)); (exact ⟨hB.2.2.os, hB.2.2.tape, hB.2.2.output, hB.2.2.size, hB.2.2.block⟩); rintro e wM ⟨ma, mn, mc, ls, rfl, hM⟩))
        all_goals
          clear HOf HMu hA hB hA2
          go_wp2_with fail
          go_meet
          case rel => exact ⟨ma, mn, mc, ls, rfl, hM.1, hM.2.1, ⟨hM.2.2.os, hM.2.2.tape, hM.2.2.output, hM.2.2.size, hM.2.2.block⟩⟩
      case rest =>
        obtain ⟨fa, fl, fc, fs, rfl, hF, hf, hb3⟩ := hcut
        have hB3 := hx.trans (hb3.mono hx.size)
        have o := m.below hb3
        have o' := m'.below hb3
        clear HOf HMu hx hb3 q0 q1' m m' HwP HwQ
        obtain ⟨n, hne⟩ : ∃ n, n = P * Q := ⟨_, rfl⟩
        obtain ⟨f, hfe⟩ : ∃ f, f = (P - 1) * (Q - 1) := ⟨_, rfl⟩
        have HR : Hid (∀ (a : Option Addr) (l c : Nat) (ls : List Int) (x : Nat) (w' : World), Dec n f (nv cs) x → IsN ls x → Nums w' a l c ls → Below w.heap.size w w' → DecT P Q cs w (.returned (.tuple #[.slice a l c, .int .i64 0])) w') := fun a l c ls x w' hD hL hN hb => ⟨a, l, c, ls, 0, rfl, hN, .inl ⟨HK.out, hv, rfl, x, by rw [← hne, ← hfe]; exact hD, hL⟩, hb⟩
        have hfle : f ≤ n := by rw [hne, hfe]; exact Nat.mul_le_mul (by omega) (by omega)
        rw [← hne] at hn hgcd n1 n2 n3 hmN hE clt cg
        rw [← hfe] at hf hgcd hE
        have hfl := two_len hf (by omega)
        clear hne hfe HK hv lP lQ kP kQ p1 q1
        obtain ⟨d1, d2, d3⟩ := qdec_less (n := n) (f := f) (c := nv cs) (by omega) hE
        have HPw := (show Hid _ from ppower_any _ _ _ _ _ _ _ _ _ _ _ _ _ _ _ _ o o' hF hn hcs hf hmN clt hfl)
        obtain ⟨u, hu⟩ : ∃ u, u = nv cs ^ f % (n * n) := ⟨_, rfl⟩
        have HU : Hid (u = nv cs ^ f % (n * n)) := hu
        rw [← hu] at HPw d1 d2 d3
        clear hu
        go_wp2_with fail
        refine Calls.mono HPw.out ?_
        rintro e w5 ⟨ua, ul, uc, us, rfl, hU, hus, hb5⟩
        have hB5 := hB3.trans (hb5.mono hB3.size)
        have q := o.below hb5
        have hF5 := hF.below hb5
        have HTm : Hid (((u - 1 : Nat) : Int) < 18446744073709551616 ^ 64) := by
          have h1 := sq_bd3 n2
          have h2 : (18446744073709551616 : Int) ^ 3 ≤ 18446744073709551616 ^ 64 := by decide
          show _ < _
          omega
        clear HPw hB3 hb5 o o' hF
        go_wp2_with fail
        refine (timesOf_any _ _ _ _ _ _ _ _ _ _ _ q hU hn hus (by omega) d1 HTm.out).mono ?_
        rintro e w6 ⟨va, vl, vc, vs', rfl, hVn, hvs, hb6⟩
        have hB6 := hB5.trans (hb6.mono hB5.size)
        have r := q.below hb6
        have hF6 := hF5.below hb6
        clear hB5 hb6 q hF5 hU hus HTm
        go_wp2_with fail
        refine (sinv_any _ _ _ _ _ _ _ _ _ _ _ hF6 r hf hn (by omega) hgcd).mono ?_
        rintro e w7 ⟨ia, il, ic, is, rfl, hIn, ⟨i, his, hin, hif⟩, hb7⟩
        have hB7 := hB6.trans (hb7.mono hB6.size)
        have s := r.below hb7
        have hV7 := hVn.below hb7
        have HD := (show Hid _ from qdec_of (n := n) (f := f) (c := nv cs) (i := i) (by omega) hif)
        rw [← HU.out] at HD
        have HM : Hid (((((u - 1) / n) * i : Nat) : Int) < 18446744073709551616 ^ 64) := by
          have h0 : (u - 1) / n * i ≤ n * n := Nat.mul_le_mul (by omega) (by omega)
          have h1 := sq_bd3 n2
          have h2 : (18446744073709551616 : Int) ^ 3 ≤ 18446744073709551616 ^ 64 := by decide
          show _ < _
          omega
        clear hB6 hb7 r hF6 hVn hif hE HU d1 d2 d3
        generalize (u - 1) / n = v at *
        go_wp2_with fail
        refine (smul_any _ _ _ _ _ _ _ _ _ _ _ hV7 hIn hvs his HM.out).mono ?_
        rintro e w8 ⟨ya, yl, yc, ys, rfl, hY, hy, hb8⟩
        have hB8 := hB7.trans (hb8.mono hB7.size)
        have t := s.below hb8
        clear hB7 hb8 s hV7 hIn hvs his HM
        go_wp2_with fail
        refine (restOf_any _ _ _ _ _ _ _ _ _ _ _ hY t hy hn (by omega)).mono ?_
        rintro e w9 ⟨za, zl, zc, zs, rfl, hZ, hz, hb9⟩
        have HY : Hid (DecT P Q cs w (.returned (.tuple #[.slice za zl zc, .int .i64 0])) w9) := HR.out _ _ _ _ _ _ HD.out hz hZ (hB8.trans (hb9.mono hB8.size))
        clear HD HR hB8 hb9 hZ hz hY hy t
        go_wp2
        go_ret2
        exact HY.out
  · have HR : Hid (DecT P Q cs w (.returned (.tuple #[.slice none 0 0, .int .i64 9])) w1) := ⟨none, 0, 0, [], 9, rfl, Nums.nil _, .inr (.inr ⟨hK, rfl, rfl⟩), hB1⟩
    clear hK hN k
    go_wp2
    go_ret2
    exact HR.out
end Go.Proofs.YtambpcgdaogojabGreat

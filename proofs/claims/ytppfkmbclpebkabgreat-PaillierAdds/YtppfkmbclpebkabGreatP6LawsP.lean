/-
  The walk of stage 6's law: sums go through.
-/
import Derived.Test.YtppfkmbclpebkabGreatP6LawsO
import Derived.Test.YtppfkmbclpebkabGreatP6Back
import Derived.Test.YtppfkmbclpebkabGreatRefA
import Derived.Test.YtppfkmbclpebkabGreatMontB
namespace Go.Proofs.YtppfkmbclpebkabGreat
open Go.RowKit

theorem small_80 {v : Nat} (h : v < 2923003274661805836407369665432566039311865085952) : (v : Int) < 18446744073709551616 ^ 64 := by
  have e1 : (18446744073709551616 : Int) ^ 3 = 6277101735386680763835789423207666416102355444464034512896 := by decide
  have e2 : (18446744073709551616 : Int) ^ 3 ≤ 18446744073709551616 ^ 64 := by decide
  omega
theorem IsN.added {xs ys ls : List Int} {x y : Nat} {e : Int} (hx : IsN xs x) (hy : IsN ys y) (h1 : x < 1208925819614629174706176) (h2 : y < 1208925819614629174706176) (h : Res2 xs ys (val 18446744073709551616 xs + val 18446744073709551616 ys) ls e) : IsN ls (x + y) := by
  have hr := h.got hx.2.1 hy.2.1
  rw [hx.2.2, hy.2.2, ← Int.natCast_add] at hr
  exact (IsN.res hr (small_80 (by omega))).1
theorem IsN.timed {xs ys ls : List Int} {x y : Nat} {e : Int} (hx : IsN xs x) (hy : IsN ys y) (h1 : x < 1208925819614629174706176) (h2 : y < 1208925819614629174706176) (h : Res2 xs ys (val 18446744073709551616 xs * val 18446744073709551616 ys) ls e) : IsN ls (x * y) := by
  have hr := h.got hx.2.1 hy.2.1
  rw [hx.2.2, hy.2.2, ← Int.natCast_mul] at hr
  have hb : x * y < 1208925819614629174706176 * 1208925819614629174706176 := Nat.mul_lt_mul'' h1 h2
  exact (IsN.res hr (small_80 (by omega))).1
theorem IsN.rest {xs ns ls : List Int} {x n : Nat} (hx : IsN xs x) (hn : IsN ns n) (hd : Digs 18446744073709551616 ls) (hr : rightB ls = true) (hv : val 18446744073709551616 ls = val 18446744073709551616 xs % val 18446744073709551616 ns) : IsN ls (x % n) :=
  ⟨hd, hr, by rw [hv, hx.2.2, hn.2.2, ← Int.natCast_emod]⟩

set_option maxRecDepth 40000 in
set_option maxHeartbeats 20000000 in
theorem adds_walk (hE : EncOk) (hP : PubOk) (hD : DecOk) (hA : AddOk) (hPl : PlainOk) (hSc : ScaleOk) (hAg : AgainOk) (P Q : Nat) (a0 a1 a2 a3 : Option Addr) (len0 cap0 len1 cap1 len2 cap2 len3 cap3 : Nat) (z0 z1 z2 z3 : List Int) (w : World) (p1 : P < 18446744073709551616) (q1 : Q < 18446744073709551616) (H0 : Nums w a0 len0 cap0 z0) (H1 : Nums w a1 len1 cap1 z1) (H2 : Nums w a2 len2 cap2 z2) (H3 : Nums w a3 len3 cap3 z3) :
    Calls Tryz.prog 3 #[.agg #[.int .u64 (P : Int), .int .u64 (Q : Int)], .agg #[.slice a0 len0 cap0, .slice a1 len1 cap1], .agg #[.slice a2 len2 cap2, .slice a3 len3 cap3]] w fun e w' => e = .returned (.bool true) ∧ Below w.heap.size w w' := by
  obtain ⟨V, hVe⟩ : ∃ V, V = ((w.alloc (.cells #[.int .u64 (P : Int), .int .u64 (Q : Int)] 24)).alloc (.cells #[.slice a0 len0 cap0, .slice a1 len1 cap1] 27)).alloc (.cells #[.slice a2 len2 cap2, .slice a3 len3 cap3] 27) := ⟨_, rfl⟩
  have hB0 : Below w.heap.size w V := by rw [hVe]; exact (((Below.refl w.heap.size w).alloc (Nat.le_refl _) _).alloc (by simp) _).alloc (by simp; omega) _
  have hz : V.heap.size = w.heap.size + 1 + 1 + 1 := by rw [hVe]; simp
  have e0 : (w.alloc (.cells #[.int .u64 (P : Int), .int .u64 (Q : Int)] 24)).cell? ⟨w.heap.size, 0, none⟩ = some (.int .u64 (P : Int)) := by simp
  have e1 : (w.alloc (.cells #[.int .u64 (P : Int), .int .u64 (Q : Int)] 24)).cell? ⟨w.heap.size, 1, none⟩ = some (.int .u64 (Q : Int)) := by simp
  have bK : Below (w.alloc (.cells #[.int .u64 (P : Int), .int .u64 (Q : Int)] 24)).heap.size (w.alloc (.cells #[.int .u64 (P : Int), .int .u64 (Q : Int)] 24)) V := by rw [hVe]; exact ((Below.refl _ _).alloc (Nat.le_refl _) _).alloc (by simp) _
  have c0 := bkeep bK e0 rfl
  have c1 := bkeep bK e1 rfl
  clear e0 e1 bK
  have J0 := H0.below hB0
  have J1 := H1.below hB0
  have J2 := H2.below hB0
  have J3 := H3.below hB0
  have HVe : Hid (V = ((w.alloc (.cells #[.int .u64 (P : Int), .int .u64 (Q : Int)] 24)).alloc (.cells #[.slice a0 len0 cap0, .slice a1 len1 cap1] 27)).alloc (.cells #[.slice a2 len2 cap2, .slice a3 len3 cap3] 27)) := hVe
  clear hVe H0 H1 H2 H3
  go_enter Tryz.func3, Tryz.ntmps3
  go_wp2_with fail
  rw [← HVe.out, ← hz]
  refine (pfew_four _ _ _ _ _ _ _ _ _ _ _ _ _ _ _ _ V J0 J1 J2 J3).mono ?_
  rintro e w1 ⟨rfl, H0, H1, H2, H3, hb1'⟩
  have hB := hB0.trans (hb1'.mono hB0.size)
  replace c0 := bkeep hb1' c0 rfl
  replace c1 := bkeep hb1' c1 rfl
  clear HVe hz hB0 hb1' J0 J1 J2 J3
  cases hm : manyB 20 [len0, len1, len2, len3] with
  | false =>
    clear H0 H1 H2 H3 c0 c1
    go_wp2
    go_ret
    exact ⟨rfl, hB⟩
  | true =>
    go_wp2_with fail
    refine (awake_any hE _).mono ?_
    rintro e w2 ⟨rfl, hb⟩
    replace hB := hB.trans (hb.mono hB.size)
    replace H0 := H0.below hb
    replace H1 := H1.below hb
    replace H2 := H2.below hb
    replace H3 := H3.below hb
    replace c0 := bkeep hb c0 rfl
    replace c1 := bkeep hb c1 rfl
    clear hb
    go_wp2_with fail
    refine (hP P Q _ p1 q1).mono ?_
    rintro e w3 ⟨na, nl, nc, ns, ne, rfl, hN, tN, hb⟩
    replace hB := hB.trans (hb.mono hB.size)
    replace H0 := H0.below hb
    replace H1 := H1.below hb
    replace H2 := H2.below hb
    replace H3 := H3.below hb
    replace c0 := bkeep hb c0 rfl
    replace c1 := bkeep hb c1 rfl
    clear hb
    rcases tN with ⟨hK, hn, rfl⟩ | ⟨hK, rfl, rfl⟩
    rotate_left
    · clear hN H0 H1 H2 H3 c0 c1 hE hP hD hA hPl hSc hAg hK
      go_wp2
      go_ret
      exact ⟨rfl, hB⟩
    have hk := hK.facts
    have n2 : P * Q < 1208925819614629174706176 := hk.2.2.2.2.2.1
    have n1 : 16384 ≤ P * Q := hk.2.2.2.2.1
    have np := hn.pos (by omega)
    have HK : Hid (KeyOk P Q) := hK
    clear hk hK hE hP
    go_wp2_with fail
    refine (hD P Q _ _ _ _ _ p1 q1 H0).mono ?_
    rintro e w4 ⟨xa, xl, xc, xs, xe, rfl, hX, tX, hb⟩
    replace hB := hB.trans (hb.mono hB.size)
    replace H0 := H0.below hb
    replace H1 := H1.below hb
    replace H2 := H2.below hb
    replace H3 := H3.below hb
    replace hN := hN.below hb
    replace c0 := bkeep hb c0 rfl
    replace c1 := bkeep hb c1 rfl
    clear hb
    go_wp2_with fail
    refine (hD P Q _ _ _ _ _ p1 q1 H1).mono ?_
    rintro e w5 ⟨ya, yl, yc, ys, ye, rfl, hY, tY, hb⟩
    replace hB := hB.trans (hb.mono hB.size)
    replace H0 := H0.below hb
    replace H1 := H1.below hb
    replace H2 := H2.below hb
    replace H3 := H3.below hb
    replace hN := hN.below hb
    replace hX := hX.below hb
    replace c0 := bkeep hb c0 rfl
    replace c1 := bkeep hb c1 rfl
    clear hb
    by_cases he : xe = 0
    rotate_left
    · have hne : (xe != 0) = true := by simp [he]
      have k1 := (dec_err HK.out tX).resolve_left he
      have k2 := dec_err HK.out tY
      subst k1
      clear tX tY hX hY hN H0 H1 H2 H3 c0 c1 hD hA hPl hSc hAg HK hn he
      rcases k2 with rfl | rfl
      · go_wp2
        go_ret
        exact ⟨rfl, hB⟩
      · go_wp2
        go_ret
        exact ⟨rfl, hB⟩
    subst he
    by_cases he : ye = 0
    rotate_left
    · have hne : (ye != 0) = true := by simp [he]
      have k2 := (dec_err HK.out tY).resolve_left he
      subst k2
      clear tX tY hX hY hN H0 H1 H2 H3 c0 c1 hD hA hPl hSc hAg HK hn he
      go_wp2
      go_ret
      exact ⟨rfl, hB⟩
    subst he
    obtain ⟨x, hx, hc0, hxs⟩ := tX.hides H0.digs
    obtain ⟨y, hy, hc1, hys⟩ := tY.hides H1.digs
    have lx : x < 1208925819614629174706176 := by have := hx.lt; omega
    have ly : y < 1208925819614629174706176 := by have := hy.lt; omega
    have HX : Hid (Hides P Q (nv z0) x) := hx
    have HY : Hid (Hides P Q (nv z1) y) := hy
    clear tX tY hx hy HK
    go_wp2_with fail
    refine (refAdd_any _ _ _ _ _ _ _ _ _ hX hY).mono ?_
    rintro e w6 ⟨sa, sl, sc, ss, se, rfl, hS, tS, hb⟩
    replace hB := hB.trans (hb.mono hB.size)
    replace H0 := H0.below hb
    replace H1 := H1.below hb
    replace H2 := H2.below hb
    replace H3 := H3.below hb
    replace hN := hN.below hb
    replace hX := hX.below hb
    replace hY := hY.below hb
    replace c0 := bkeep hb c0 rfl
    replace c1 := bkeep hb c1 rfl
    clear hb
    have hss := hxs.added hys lx ly tS
    clear tS hY hys
    go_wp2_with fail
    refine (hA _ _ _ _ _ _ _ _ _ _ _ _ _ hN H0 H1).mono ?_
    rintro e w7 ⟨aa, al, ac, aas, ae, rfl, hAn, tA, hb⟩
    replace hB := hB.trans (hb.mono hB.size)
    replace H0 := H0.below hb
    replace H1 := H1.below hb
    replace H2 := H2.below hb
    replace H3 := H3.below hb
    replace hN := hN.below hb
    replace hX := hX.below hb
    replace hS := hS.below hb
    replace c0 := bkeep hb c0 rfl
    replace c1 := bkeep hb c1 rfl
    clear hb
    obtain ⟨rfl, a, ha, has⟩ := add_hides hn HX.out HY.out hc0 hc1 tA
    clear tA HY hc1 H1 hA
    go_wp2_with fail
    refine (hD P Q _ _ _ _ _ p1 q1 hAn).mono ?_
    rintro e w8 ⟨ta, tl, tc, ts, te, rfl, hT, tT, hb⟩
    replace hB := hB.trans (hb.mono hB.size)
    replace H0 := H0.below hb
    replace H2 := H2.below hb
    replace H3 := H3.below hb
    replace hN := hN.below hb
    replace hX := hX.below hb
    replace hS := hS.below hb
    replace c0 := bkeep hb c0 rfl
    replace c1 := bkeep hb c1 rfl
    clear hb
    obtain ⟨rfl, hts⟩ := ha.told has tT
    clear tT ha has hAn
    go_wp2_with fail
    refine (rest_any _ _ _ _ _ _ _ _ _ hS hN hss.2.1 hn.2.1 (by omega)).mono ?_
    rintro e w9 ⟨ra, rl, rc, rs, rfl, hR, rr, rv, hb⟩
    replace hB := hB.trans (hb.mono hB.size)
    replace H0 := H0.below hb
    replace H2 := H2.below hb
    replace H3 := H3.below hb
    replace hN := hN.below hb
    replace hX := hX.below hb
    replace hS := hS.below hb
    replace hT := hT.below hb
    replace c0 := bkeep hb c0 rfl
    replace c1 := bkeep hb c1 rfl
    clear hb
    obtain rfl := (hss.rest hn hR.digs rr rv).unique hts
    clear rr rv hss hts
    have HS := (show Hid _ from same_any _ _ _ _ _ _ _ _ _ hT hR)
    rw [sameB_self] at HS
    clear hT hR hS
    go_wp2_with fail
    refine Calls.mono HS.out ?_
    rintro e w10 ⟨rfl, hb⟩
    replace hB := hB.trans (hb.mono hB.size)
    replace H0 := H0.below hb
    replace H2 := H2.below hb
    replace H3 := H3.below hb
    replace hN := hN.below hb
    replace hX := hX.below hb
    replace c0 := bkeep hb c0 rfl
    replace c1 := bkeep hb c1 rfl
    clear hb
    clear HS
    go_wp2_with fail
    refine (hAg _ _ _ _ _ _ _ _ _ _ _ _ _ hN H0 H3).mono ?_
    rintro e w11 ⟨ba, bl', bc, bs, be, rfl, hBn, tB, hb⟩
    replace hB := hB.trans (hb.mono hB.size)
    replace H0 := H0.below hb
    replace H2 := H2.below hb
    replace H3 := H3.below hb
    replace hN := hN.below hb
    replace hX := hX.below hb
    replace c0 := bkeep hb c0 rfl
    replace c1 := bkeep hb c1 rfl
    clear hb
    clear H3 hAg
    by_cases he : be = 0
    rotate_left
    · have hne : (be == 0) = false := by simp [he]
      clear tB hBn he
      go_wp2_with fail
      refine (hPl _ _ _ _ _ _ _ _ _ _ _ _ _ hN H0 H2).mono ?_
      rintro e w12 ⟨pa, pl, pc, ps, pe, rfl, hPn, tP, hb⟩
      replace hB := hB.trans (hb.mono hB.size)
      replace H0 := H0.below hb
      replace H2 := H2.below hb
      replace hN := hN.below hb
      replace hX := hX.below hb
      replace c0 := bkeep hb c0 rfl
      replace c1 := bkeep hb c1 rfl
      clear hb
      go_wp2_with fail
      refine (hSc _ _ _ _ _ _ _ _ _ _ _ _ _ hN H0 H2).mono ?_
      rintro e w13 ⟨qa, ql, qc, qs, qe, rfl, hQn, tQ, hb⟩
      replace hB := hB.trans (hb.mono hB.size)
      replace H0 := H0.below hb
      replace H2 := H2.below hb
      replace hN := hN.below hb
      replace hX := hX.below hb
      replace hPn := hPn.below hb
      replace c0 := bkeep hb c0 rfl
      replace c1 := bkeep hb c1 rfl
      clear hb
      obtain ⟨rfl, k⟩ := plain_err hn HX.out hc0 tP tQ
      rcases k with rfl | rfl
      rotate_left
      · clear tP tQ hPn hQn hN H0 H2 hX c0 c1 hD hPl hSc HX hn hxs
        go_wp2
        go_ret
        exact ⟨rfl, hB⟩
      obtain ⟨mr, ml, -⟩ := plain_ok hn HX.out hc0 tP
      have hms := IsN.self H2.digs mr
      have lm : nv z2 < 1208925819614629174706176 := by omega
      obtain ⟨p, hp, hps⟩ := plain_hides hn HX.out hc0 tP
      obtain ⟨q, hq, hqs⟩ := scale_hides hn HX.out hc0 tQ
      clear tP tQ HX hc0 H0 hPl hSc
      go_wp2_with fail
      refine (refAdd_any _ _ _ _ _ _ _ _ _ hX H2).mono ?_
      rintro e w14 ⟨sa, sl, sc, ss, se, rfl, hS, tS, hb⟩
      replace hB := hB.trans (hb.mono hB.size)
      replace H2 := H2.below hb
      replace hN := hN.below hb
      replace hX := hX.below hb
      replace hPn := hPn.below hb
      replace hQn := hQn.below hb
      replace c0 := bkeep hb c0 rfl
      replace c1 := bkeep hb c1 rfl
      clear hb
      have hss := hxs.added hms lx lm tS
      clear tS
      go_wp2_with fail
      refine (refMul_any _ _ _ _ _ _ _ _ _ hX H2).mono ?_
      rintro e w15 ⟨oa, ol, oc, os, oe, rfl, hO, tO, hb⟩
      replace hB := hB.trans (hb.mono hB.size)
      replace H2 := H2.below hb
      replace hN := hN.below hb
      replace hX := hX.below hb
      replace hPn := hPn.below hb
      replace hQn := hQn.below hb
      replace hS := hS.below hb
      replace c0 := bkeep hb c0 rfl
      replace c1 := bkeep hb c1 rfl
      clear hb
      have hos := hxs.timed hms lx lm tO
      clear tO hX H2 hxs hms
      go_wp2_with fail
      refine (hD P Q _ _ _ _ _ p1 q1 hPn).mono ?_
      rintro e w16 ⟨ua, ul, uc, us, ue, rfl, hU, tU, hb⟩
      replace hB := hB.trans (hb.mono hB.size)
      replace hN := hN.below hb
      replace hPn := hPn.below hb
      replace hQn := hQn.below hb
      replace hS := hS.below hb
      replace hO := hO.below hb
      replace c0 := bkeep hb c0 rfl
      replace c1 := bkeep hb c1 rfl
      clear hb
      obtain ⟨rfl, hus⟩ := hp.told hps tU
      clear tU hp hps hPn
      go_wp2_with fail
      refine (hD P Q _ _ _ _ _ p1 q1 hQn).mono ?_
      rintro e w17 ⟨va, vl, vc, vs, ve, rfl, hV, tV, hb⟩
      replace hB := hB.trans (hb.mono hB.size)
      replace hN := hN.below hb
      replace hQn := hQn.below hb
      replace hS := hS.below hb
      replace hO := hO.below hb
      replace hU := hU.below hb
      clear hb
      obtain ⟨rfl, hvs⟩ := hq.told hqs tV
      clear tV hq hqs hQn c0 c1 hD
      go_wp2_with fail
      refine (rest_any _ _ _ _ _ _ _ _ _ hS hN hss.2.1 hn.2.1 (by omega)).mono ?_
      rintro e w18 ⟨ra, rl, rc, rs, rfl, hR, rr, rv, hb⟩
      replace hB := hB.trans (hb.mono hB.size)
      replace hN := hN.below hb
      replace hS := hS.below hb
      replace hO := hO.below hb
      replace hU := hU.below hb
      replace hV := hV.below hb
      clear hb
      obtain rfl := (hss.rest hn hR.digs rr rv).unique hus
      clear rr rv hss hus hS
      have HS := (show Hid _ from same_any _ _ _ _ _ _ _ _ _ hU hR)
      rw [sameB_self] at HS
      clear hU hR
      go_wp2_with fail
      refine Calls.mono HS.out ?_
      rintro e w19 ⟨rfl, hb⟩
      replace hB := hB.trans (hb.mono hB.size)
      replace hN := hN.below hb
      replace hO := hO.below hb
      replace hV := hV.below hb
      clear hb
      clear HS
      go_wp2_with fail
      refine (rest_any _ _ _ _ _ _ _ _ _ hO hN hos.2.1 hn.2.1 (by omega)).mono ?_
      rintro e w20 ⟨ra2, rl2, rc2, rs2, rfl, hR, rr, rv, hb⟩
      replace hB := hB.trans (hb.mono hB.size)
      replace hN := hN.below hb
      replace hO := hO.below hb
      replace hV := hV.below hb
      clear hb
      obtain rfl := (hos.rest hn hR.digs rr rv).unique hvs
      clear rr rv hos hvs hO
      have HS := (show Hid _ from same_any _ _ _ _ _ _ _ _ _ hV hR)
      rw [sameB_self] at HS
      clear hV hR hN
      go_wp2_with fail
      refine Calls.mono HS.out ?_
      rintro e w21 ⟨rfl, hb⟩
      replace hB := hB.trans (hb.mono hB.size)
      clear hb
      clear HS
      go_wp2
      go_ret
      exact ⟨rfl, hB⟩
    subst he
    obtain ⟨b, hb', hbs⟩ := again_hides hn HX.out hc0 tB
    clear tB
    go_wp2_with fail
    refine (hD P Q _ _ _ _ _ p1 q1 hBn).mono ?_
    rintro e w12 ⟨ta, tl, tc, ts, te, rfl, hT, tT, hb⟩
    replace hB := hB.trans (hb.mono hB.size)
    replace H0 := H0.below hb
    replace H2 := H2.below hb
    replace hN := hN.below hb
    replace hX := hX.below hb
    replace c0 := bkeep hb c0 rfl
    replace c1 := bkeep hb c1 rfl
    clear hb
    obtain ⟨rfl, hts⟩ := hb'.told hbs tT
    obtain rfl := hts.unique hxs
    clear tT hb' hbs hBn hts
    have HS := (show Hid _ from same_any _ _ _ _ _ _ _ _ _ hT hX)
    rw [sameB_self] at HS
    clear hT
    go_wp2_with fail
    refine Calls.mono HS.out ?_
    rintro e w13 ⟨rfl, hb⟩
    replace hB := hB.trans (hb.mono hB.size)
    replace H0 := H0.below hb
    replace H2 := H2.below hb
    replace hN := hN.below hb
    replace hX := hX.below hb
    replace c0 := bkeep hb c0 rfl
    replace c1 := bkeep hb c1 rfl
    clear hb
    clear HS
    go_wp2_with fail
    refine (hPl _ _ _ _ _ _ _ _ _ _ _ _ _ hN H0 H2).mono ?_
    rintro e w14 ⟨pa, pl, pc, ps, pe, rfl, hPn, tP, hb⟩
    replace hB := hB.trans (hb.mono hB.size)
    replace H0 := H0.below hb
    replace H2 := H2.below hb
    replace hN := hN.below hb
    replace hX := hX.below hb
    replace c0 := bkeep hb c0 rfl
    replace c1 := bkeep hb c1 rfl
    clear hb
    go_wp2_with fail
    refine (hSc _ _ _ _ _ _ _ _ _ _ _ _ _ hN H0 H2).mono ?_
    rintro e w15 ⟨qa, ql, qc, qs, qe, rfl, hQn, tQ, hb⟩
    replace hB := hB.trans (hb.mono hB.size)
    replace H0 := H0.below hb
    replace H2 := H2.below hb
    replace hN := hN.below hb
    replace hX := hX.below hb
    replace hPn := hPn.below hb
    replace c0 := bkeep hb c0 rfl
    replace c1 := bkeep hb c1 rfl
    clear hb
    obtain ⟨rfl, k⟩ := plain_err hn HX.out hc0 tP tQ
    rcases k with rfl | rfl
    rotate_left
    · clear tP tQ hPn hQn hN H0 H2 hX c0 c1 hD hPl hSc HX hn hxs
      go_wp2
      go_ret
      exact ⟨rfl, hB⟩
    obtain ⟨mr, ml, -⟩ := plain_ok hn HX.out hc0 tP
    have hms := IsN.self H2.digs mr
    have lm : nv z2 < 1208925819614629174706176 := by omega
    obtain ⟨p, hp, hps⟩ := plain_hides hn HX.out hc0 tP
    obtain ⟨q, hq, hqs⟩ := scale_hides hn HX.out hc0 tQ
    clear tP tQ HX hc0 H0 hPl hSc
    go_wp2_with fail
    refine (refAdd_any _ _ _ _ _ _ _ _ _ hX H2).mono ?_
    rintro e w16 ⟨sa, sl, sc, ss, se, rfl, hS, tS, hb⟩
    replace hB := hB.trans (hb.mono hB.size)
    replace H2 := H2.below hb
    replace hN := hN.below hb
    replace hX := hX.below hb
    replace hPn := hPn.below hb
    replace hQn := hQn.below hb
    replace c0 := bkeep hb c0 rfl
    replace c1 := bkeep hb c1 rfl
    clear hb
    have hss := hxs.added hms lx lm tS
    clear tS
    go_wp2_with fail
    refine (refMul_any _ _ _ _ _ _ _ _ _ hX H2).mono ?_
    rintro e w17 ⟨oa, ol, oc, os, oe, rfl, hO, tO, hb⟩
    replace hB := hB.trans (hb.mono hB.size)
    replace H2 := H2.below hb
    replace hN := hN.below hb
    replace hX := hX.below hb
    replace hPn := hPn.below hb
    replace hQn := hQn.below hb
    replace hS := hS.below hb
    replace c0 := bkeep hb c0 rfl
    replace c1 := bkeep hb c1 rfl
    clear hb
    have hos := hxs.timed hms lx lm tO
    clear tO hX H2 hxs hms
    go_wp2_with fail
    refine (hD P Q _ _ _ _ _ p1 q1 hPn).mono ?_
    rintro e w18 ⟨ua, ul, uc, us, ue, rfl, hU, tU, hb⟩
    replace hB := hB.trans (hb.mono hB.size)
    replace hN := hN.below hb
    replace hPn := hPn.below hb
    replace hQn := hQn.below hb
    replace hS := hS.below hb
    replace hO := hO.below hb
    replace c0 := bkeep hb c0 rfl
    replace c1 := bkeep hb c1 rfl
    clear hb
    obtain ⟨rfl, hus⟩ := hp.told hps tU
    clear tU hp hps hPn
    go_wp2_with fail
    refine (hD P Q _ _ _ _ _ p1 q1 hQn).mono ?_
    rintro e w19 ⟨va, vl, vc, vs, ve, rfl, hV, tV, hb⟩
    replace hB := hB.trans (hb.mono hB.size)
    replace hN := hN.below hb
    replace hQn := hQn.below hb
    replace hS := hS.below hb
    replace hO := hO.below hb
    replace hU := hU.below hb
    clear hb
    obtain ⟨rfl, hvs⟩ := hq.told hqs tV
    clear tV hq hqs hQn c0 c1 hD
    go_wp2_with fail
    refine (rest_any _ _ _ _ _ _ _ _ _ hS hN hss.2.1 hn.2.1 (by omega)).mono ?_
    rintro e w20 ⟨ra, rl, rc, rs, rfl, hR, rr, rv, hb⟩
    replace hB := hB.trans (hb.mono hB.size)
    replace hN := hN.below hb
    replace hS := hS.below hb
    replace hO := hO.below hb
    replace hU := hU.below hb
    replace hV := hV.below hb
    clear hb
    obtain rfl := (hss.rest hn hR.digs rr rv).unique hus
    clear rr rv hss hus hS
    have HS := (show Hid _ from same_any _ _ _ _ _ _ _ _ _ hU hR)
    rw [sameB_self] at HS
    clear hU hR
    go_wp2_with fail
    refine Calls.mono HS.out ?_
    rintro e w21 ⟨rfl, hb⟩
    replace hB := hB.trans (hb.mono hB.size)
    replace hN := hN.below hb
    replace hO := hO.below hb
    replace hV := hV.below hb
    clear hb
    clear HS
    go_wp2_with fail
    refine (rest_any _ _ _ _ _ _ _ _ _ hO hN hos.2.1 hn.2.1 (by omega)).mono ?_
    rintro e w22 ⟨ra2, rl2, rc2, rs2, rfl, hR, rr, rv, hb⟩
    replace hB := hB.trans (hb.mono hB.size)
    replace hN := hN.below hb
    replace hO := hO.below hb
    replace hV := hV.below hb
    clear hb
    obtain rfl := (hos.rest hn hR.digs rr rv).unique hvs
    clear rr rv hos hvs hO
    have HS := (show Hid _ from same_any _ _ _ _ _ _ _ _ _ hV hR)
    rw [sameB_self] at HS
    clear hV hR hN
    go_wp2_with fail
    refine Calls.mono HS.out ?_
    rintro e w23 ⟨rfl, hb⟩
    replace hB := hB.trans (hb.mono hB.size)
    clear hb
    clear HS
    go_wp2
    go_ret
    exact ⟨rfl, hB⟩
end Go.Proofs.YtppfkmbclpebkabGreat

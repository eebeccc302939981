/-
  The walk of stage 7's law on sums of packs.
-/
import Derived.Test.YtambpcgdaogojaaP7LawsO
import Derived.Test.YtambpcgdaogojaaF7Back
import Derived.Test.YtambpcgdaogojaaRefA
import Derived.Test.YtambpcgdaogojaaRefGcd
import Derived.Test.YtambpcgdaogojaaModA
namespace Go.Proofs.Ytambpcgdaogojaa
open Go.RowKit

/-- A rest by a number above 0. -/
theorem rest_isN {zs ys qs rs : List Int} {x y : Nat} {err : Int} (hx : IsN zs x) (hy : IsN ys y) (hp : 0 < y) (h : ResDiv zs ys qs rs err) : IsN rs (x % y) := by
  unfold ResDiv at h
  rw [hx.2.1, hy.2.1, if_pos (by rfl), if_neg (by have := hy.pos hp; omega), hx.2.2, hy.2.2] at h
  obtain ⟨_, _, k1, _, k2, _, k3⟩ := h
  exact ⟨k1, k2, by rw [k3, ← Int.natCast_emod]⟩

set_option maxRecDepth 20000 in
set_option maxHeartbeats 12800000 in
theorem fadds_walk (hE : CodOk) (hR : RmOk) (hP : PkOk) (hU : UpOk) (r m k : Int) (a0 a1 : Option Addr) (len0 cap0 len1 cap1 : Nat) (z0 : List Int) (w : World) (hr : -9223372036854775808 ≤ r ∧ r < 9223372036854775808) (hm : -9223372036854775808 ≤ m ∧ m < 9223372036854775808) (hk : -9223372036854775808 ≤ k ∧ k < 9223372036854775808) (H0 : Nums w a0 len0 cap0 z0) (HPs : PairsAt w a1 len1 cap1) :
    Calls Try.prog 8 #[.slice a0 len0 cap0, .agg #[.int .i64 r, .int .i64 m, .int .i64 k], .slice a1 len1 cap1] w fun e w' => e = .returned (.bool true) ∧ Below w.heap.size w w' := by
  have hV := (Below.refl w.heap.size w).alloc (Nat.le_refl _) (.cells #[.int .i64 r, .int .i64 m, .int .i64 k] 42)
  have c0 : (w.alloc (.cells #[.int .i64 r, .int .i64 m, .int .i64 k] 42)).cell? ⟨w.heap.size, 0, none⟩ = some (.int .i64 r) := by simp
  have c1 : (w.alloc (.cells #[.int .i64 r, .int .i64 m, .int .i64 k] 42)).cell? ⟨w.heap.size, 1, none⟩ = some (.int .i64 m) := by simp
  have c2 : (w.alloc (.cells #[.int .i64 r, .int .i64 m, .int .i64 k] 42)).cell? ⟨w.heap.size, 2, none⟩ = some (.int .i64 k) := by simp
  replace H0 := H0.below hV
  replace HPs := HPs.below hV
  obtain ⟨V, hVe⟩ : ∃ V, V = w.alloc (.cells #[.int .i64 r, .int .i64 m, .int .i64 k] 42) := ⟨_, rfl⟩
  have hz : V.heap.size = w.heap.size + 1 := by rw [hVe]; simp
  rw [← hVe] at hV c0 c1 c2 H0 HPs
  have HVe : Hid (V = w.alloc (.cells #[.int .i64 r, .int .i64 m, .int .i64 k] 42)) := hVe
  have HF := (show Hid _ from qfew_one _ _ _ _ V H0)
  have HZ : Hid (V.heap.size = w.heap.size + 1) := hz
  clear H0 hVe hz
  go_enter Try.func8, Try.ntmps8
  go_wp2_with fail
  rw [← HVe.out, ← HZ.out]
  refine Calls.mono HF.out ?_
  rintro e w1 ⟨rfl, H0, hb1⟩
  have hB1 := hV.trans (hb1.mono hV.size)
  replace HPs := HPs.below hb1
  replace c0 := bkeep hb1 c0 rfl
  replace c1 := bkeep hb1 c1 rfl
  replace c2 := bkeep hb1 c2 rfl
  clear HF HVe HZ hb1 hV
  cases hmm : manyB 20 [len0] with
  | false =>
    clear H0 HPs
    go_wp2
    go_ret
    exact ⟨rfl, hB1⟩
  | true =>
    go_wp2_with fail
    refine (awake7_any hE _).mono ?_
    rintro e w2 ⟨rfl, hb2⟩
    have hB2 := hB1.trans (hb2.mono hB1.size)
    replace H0 := H0.below hb2
    replace HPs := HPs.below hb2
    replace c0 := bkeep hb2 c0 rfl
    replace c1 := bkeep hb2 c1 rfl
    replace c2 := bkeep hb2 c2 rfl
    clear hB1 hb2 hE
    go_wp2_with fail
    refine (hR _ _ _ _ r m k _ H0 hr hm hk).mono ?_
    rintro e w3 ⟨s, se, rfl, tS, hb3⟩
    have hB3 := hB2.trans (hb3.mono hB2.size)
    replace H0 := H0.below hb3
    replace HPs := HPs.below hb3
    replace c0 := bkeep hb3 c0 rfl
    replace c1 := bkeep hb3 c1 rfl
    replace c2 := bkeep hb3 c2 rfl
    clear hB2 hb3 hR
    rcases tS with ⟨_, rfl, rfl⟩ | ⟨hrB, t, t62, hL, hfit, rfl, rfl⟩ | ⟨_, _, rfl, rfl⟩
    · clear H0 HPs c0 c1 c2 hP hU
      go_wp2
      go_ret
      exact ⟨rfl, hB3⟩
    · have hparts : modB z0 = true ∧ 1 ≤ r ∧ 1 ≤ m ∧ 1 ≤ k := by
        unfold roomB at hrB
        simpa using hrB
      obtain ⟨hmod, r1, m1, k1⟩ := hparts
      have n3 := ((modB_iff z0).1 hmod).2.2
      have hn := IsN.self H0.digs ((modB_iff z0).1 hmod).1
      have hnb := mod_bd H0.digs hmod
      obtain ⟨P, hPe⟩ : ∃ P : Int, P = 2 ^ t := ⟨_, rfl⟩
      have hP1 : 1 ≤ P := by
        have := pow62 (s := (t : Int)) (by omega)
        rw [Int.toNat_natCast, ← hPe] at this
        exact this.1
      rw [← hPe] at hfit
      have hLP : r * k < P := by rw [hPe]; exact hL.2.1
      have hsB : shB (t : Int) = true := (shB_iff _).2 ⟨by have := hL.1; omega, by omega⟩
      have HK : Hid (∀ (i : Nat) (G H : Int) (S : Nat) (ss : List Int), Run7 (nv z0) P m k i G H S → (i : Int) ≤ r → (-9223372036854775808 ≤ G ∧ G < 9223372036854775808) → IsN ss S → upF z0 (t : Int) ss = none ∧ upG z0 (t : Int) ss = G ∧ upH z0 (t : Int) ss = H) := by
        intro i G H S ss hrun hi hG hss
        obtain ⟨f1, f2, f3⟩ := hrun.fits hi (by omega) (by omega) hLP hfit
        have hc := hrun.code n3 f1
        have eP : P = 2 ^ (t : Int).toNat := by rw [Int.toNat_natCast]; exact hPe
        have eX : pkX (t : Int) G H = G * P + H := by unfold pkX; rw [← eP]
        refine up_of hmod hsB f2 (by rw [← eP]; exact f3) (by rw [eX]; exact f1) ((fitB_iff G).2 hG) ?_
        rw [eX, ← hc]
        exact hss
      have HPk : Hid (∀ (x y : Int), -m ≤ x ∧ x ≤ m → 0 ≤ y ∧ y ≤ k → pkF z0 (t : Int) x y = none ∧ (codV (nv z0) (pkX (t : Int) x y) : Int) = (x * P + y) % (nv z0 : Int) ∧ codV (nv z0) (pkX (t : Int) x y) < nv z0) := by
        intro x y hx hy
        have h1 : m ≤ r * m := by
          have := Int.mul_le_mul_of_nonneg_right r1 (show 0 ≤ m by omega)
          rw [Int.one_mul] at this
          exact this
        have h2 : k ≤ r * k := by
          have := Int.mul_le_mul_of_nonneg_right r1 (show 0 ≤ k by omega)
          rw [Int.one_mul] at this
          exact this
        have h3 : x * P ≤ r * m * P := Int.mul_le_mul_of_nonneg_right (by omega) (by omega)
        have h4 : -(r * m) * P ≤ x * P := Int.mul_le_mul_of_nonneg_right (by omega) (by omega)
        rw [Int.neg_mul] at h4
        have hX : (x * P + y).natAbs ≤ hlf (nv z0) := by omega
        have eP : P = 2 ^ (t : Int).toNat := by rw [Int.toNat_natCast]; exact hPe
        have eX : pkX (t : Int) x y = x * P + y := by unfold pkX; rw [← eP]
        refine ⟨?_, by rw [eX]; exact cod_mod n3 hX, by rw [eX]; exact (cod_back n3 hX).1⟩
        rw [pk_true hmod hsB hy.1 (by rw [← eP]; omega), eX, if_pos hX]
      have HRs : Hid (nv z0 < 18446744073709551616 ^ 8) := by
        show _ < _
        have e : ((18446744073709551616 ^ 8 : Nat) : Int) = 18446744073709551616 ^ 8 := by decide
        omega
      have hsr : -9223372036854775808 ≤ (t : Int) ∧ (t : Int) < 9223372036854775808 := by omega
      have HN : Hid (IsN z0 (nv z0) ∧ 3 ≤ nv z0) := ⟨hn, n3⟩
      clear hrB hL hfit hmod n3 hn hnb hPe hLP hsB hmm
      have hlm := HPs.1
      have hlm2 := HPs.2.1
      unfold maxLen at hlm2
      go_wp2
      go_loopw [10, 11, 12, 13] (fun v10 v11 v12 v13 wr => ∃ (i : Nat) (G H : Int) (S : Nat) (sa : Option Addr) (sl sc : Nat) (ss : List Int), v13 = .int .i64 i ∧ v11 = .int .i64 G ∧ v12 = .int .i64 H ∧ v10 = .slice sa sl sc ∧ Nums wr sa sl sc ss ∧ Hid (IsN ss S ∧ S < nv z0) ∧ Hid (Run7 (nv z0) P m k i G H S) ∧ (i ≤ len1 ∧ (i : Int) ≤ r ∧ i ≤ 1000) ∧ Hid (0 < i → m ≤ 1099511627776 ∧ k ≤ 1099511627776) ∧ Below w3.heap.size w3 wr) (fun _ _ _ v13 _ => 1001 - (intOf v13).toNat)
      case atStart => exact ⟨0, 0, 0, 0, none, 0, 0, [], rfl, rfl, rfl, rfl, Nums.nil _, ⟨⟨Digs.nil _, rfl, by simp [val]⟩, by have := HN.out.2; omega⟩, Run7.start _ _ _ _, ⟨by omega, by omega, by omega⟩, (fun h => by omega : 0 < 0 → m ≤ 1099511627776 ∧ k ≤ 1099511627776), Below.refl _ _⟩
      case round =>
        obtain ⟨i, G, H, S, sa, sl, sc, ss, rfl, rfl, rfl, rfl, hS, HS, HRun, ⟨i1, i2, i3⟩, HI, hbr⟩ := hrel
        obtain ⟨⟨G0, G1⟩, Hh0, Hh1⟩ := HRun.out.small i3 m1 k1 HI.out
        have hBr := hB3.trans (hbr.mono hB3.size)
        have H0r := H0.below hbr
        have d0 := bkeep hbr c0 rfl
        have d1 := bkeep hbr c1 rfl
        have d2 := bkeep hbr c2 rfl
        by_cases hgo : i < len1 ∧ (i : Int) < r ∧ i < 1000
        · obtain ⟨g1, g2, g3⟩ := hgo
          have g1i : (i : Int) < (len1 : Int) := by omega
          have g3i : (i : Int) < 1000 := by omega
          obtain ⟨b, off, x, y, rfl, p0, p1, f0, f1⟩ := HPs.2.2 i g1
          have hx := word_of_wfS f0
          have hy := word_of_wfS f1
          have q0 := bkeep hbr p0 rfl
          have q1 := bkeep hbr p1 rfl
          by_cases e1 : m < x
          · clear H0 H0r hS HS HRun HI HK HPk HPs hP hU c0 c1 c2 HN HRs hbr hB3
            go_wp2
            go_ret
            exact ⟨rfl, hBr⟩
          have e1d : decide (m < x) = false := decide_eq_false e1
          by_cases e2 : x < -m
          · clear H0 H0r hS HS HRun HI HK HPk HPs hP hU c0 c1 c2 HN HRs hbr hB3
            go_wp2
            go_ret
            exact ⟨rfl, hBr⟩
          have e2d : decide (x < -m) = false := decide_eq_false e2
          by_cases e3 : y < 0
          · clear H0 H0r hS HS HRun HI HK HPk HPs hP hU c0 c1 c2 HN HRs hbr hB3
            go_wp2
            go_ret
            exact ⟨rfl, hBr⟩
          have e3d : decide (y < 0) = false := decide_eq_false e3
          by_cases e4 : k < y
          · clear H0 H0r hS HS HRun HI HK HPk HPs hP hU c0 c1 c2 HN HRs hbr hB3
            go_wp2
            go_ret
            exact ⟨rfl, hBr⟩
          have e4d : decide (k < y) = false := decide_eq_false e4
          by_cases e5 : 1099511627776 < m
          · clear H0 H0r hS HS HRun HI HK HPk HPs hP hU c0 c1 c2 HN HRs hbr hB3
            go_wp2
            go_ret
            exact ⟨rfl, hBr⟩
          have e5d : decide (1099511627776 < m) = false := decide_eq_false e5
          by_cases e6 : 1099511627776 < k
          · clear H0 H0r hS HS HRun HI HK HPk HPs hP hU c0 c1 c2 HN HRs hbr hB3
            go_wp2
            go_ret
            exact ⟨rfl, hBr⟩
          have e6d : decide (1099511627776 < k) = false := decide_eq_false e6
          obtain ⟨k1', k2', k3'⟩ := HPk.out x y ⟨by omega, by omega⟩ ⟨by omega, by omega⟩
          have HPx := (show Hid _ from hP _ _ _ _ (t : Int) x y _ H0r hsr hx hy)
          rw [k1'] at HPx
          obtain ⟨p, hp⟩ : ∃ p, p = codV (nv z0) (pkX (t : Int) x y) := ⟨_, rfl⟩
          rw [← hp] at HPx k2' k3'
          have HRun2 : Hid (Run7 (nv z0) P m k (i + 1) (G + x) (H + y) ((S + p) % nv z0)) := HRun.out.step ⟨by omega, by omega⟩ ⟨by omega, by omega⟩ k2'
          have HSp : Hid (((S + p : Nat) : Int) < 18446744073709551616 ^ 64) := by
            show _ < _
            have h1 := HRs.out
            have h2 := HS.out.2
            have e : 2 * 18446744073709551616 ^ 8 < 18446744073709551616 ^ 64 := by decide
            have e2 : ((18446744073709551616 ^ 64 : Nat) : Int) = 18446744073709551616 ^ 64 := by decide
            omega
          clear k1' k2' k3' hp HPk
          go_wp2_with fail
          refine Calls.mono HPx.out ?_
          rintro e w4 ⟨pa, pl, pc, ps, pe, rfl, hPs, ⟨_, h, _⟩ | ⟨-, hps, rfl⟩, hb4⟩
          · cases h
          · have hb34 := hbr.trans (hb4.mono hbr.size)
            have hS4 := hS.below hb4
            clear HPx hS hb4
            go_wp2_with fail
            refine (refAdd_any _ _ _ _ _ _ _ _ _ hS4 hPs).mono ?_
            rintro e w5 ⟨aa, al, ac, as', ae, rfl, hA, hRes, hb5⟩
            have has : IsN as' (S + p) := by
              have h1 := hRes.got HS.out.1.2.1 hps.2.1
              rw [HS.out.1.2.2, hps.2.2, ← Int.natCast_add] at h1
              exact (IsN.res h1 HSp.out).1
            have hb35 := hb34.trans (hb5.mono hb34.size)
            have H05 := H0.below hb35
            clear hRes hS4 hPs hps hb5 hb34 HSp
            go_wp2_with fail
            refine (refRest_any _ _ _ _ _ _ _ _ _ hA H05).mono ?_
            rintro e w6 ⟨ra, rn, rc, rs, qs, er, rfl, hRn, hDiv, hb6⟩
            have HS6 : Hid (IsN rs ((S + p) % nv z0) ∧ (S + p) % nv z0 < nv z0) := ⟨rest_isN has HN.out.1 (by have := HN.out.2; omega) hDiv, Nat.mod_lt _ (by have := HN.out.2; omega)⟩
            have hb36 := hb35.trans (hb6.mono hb35.size)
            have HI2 : Hid (0 < i + 1 → m ≤ 1099511627776 ∧ k ≤ 1099511627776) := fun _ => ⟨by omega, by omega⟩
            clear hDiv has hA H05 hb35 hb6 HS HRun HI H0r d0 d1 d2 q0 q1
            go_wp2
            go_roundw
            case rel => exact ⟨i + 1, G + x, H + y, (S + p) % nv z0, ra, rn, rc, rs, by go_num, by go_num, by go_num, rfl, hRn, HS6, HRun2, ⟨by omega, by omega, by omega⟩, HI2, hb36⟩
            case measure => simp [intOf]; omega
        · by_cases g1 : i < len1
          · have g1i : (i : Int) < (len1 : Int) := by omega
            by_cases g2 : (i : Int) < r
            · have g3 : ¬ (i : Int) < 1000 := by omega
              have g3d : decide ((i : Int) < 1000) = false := decide_eq_false g3
              obtain ⟨u1, u2, u3⟩ := HK.out i G H S ss HRun.out i2 (by omega) HS.out.1
              have HU := (show Hid _ from hU _ _ _ _ _ _ _ _ (t : Int) _ H0r hS hsr)
              rw [u1, u2, u3] at HU
              clear u1 u2 u3 H0 H0r hS HS HRun HI HK HPk HPs hP hU c0 c1 c2 HN HRs hbr hB3
              go_wp2_with fail
              refine Calls.mono HU.out ?_
              rintro e w9 ⟨gx, gy, ge, rfl, ⟨_, h, _⟩ | ⟨-, rfl, rfl, rfl⟩, hb9⟩
              · cases h
              · have hB9 := hBr.trans (hb9.mono hBr.size)
                clear HU hBr hb9 d0 d1 d2
                go_wp2
                go_ret
                exact ⟨by simp, hB9⟩
            · have g2d : decide ((i : Int) < r) = false := decide_eq_false g2
              obtain ⟨u1, u2, u3⟩ := HK.out i G H S ss HRun.out i2 (by omega) HS.out.1
              have HU := (show Hid _ from hU _ _ _ _ _ _ _ _ (t : Int) _ H0r hS hsr)
              rw [u1, u2, u3] at HU
              clear u1 u2 u3 H0 H0r hS HS HRun HI HK HPk HPs hP hU c0 c1 c2 HN HRs hbr hB3
              go_wp2_with fail
              refine Calls.mono HU.out ?_
              rintro e w9 ⟨gx, gy, ge, rfl, ⟨_, h, _⟩ | ⟨-, rfl, rfl, rfl⟩, hb9⟩
              · cases h
              · have hB9 := hBr.trans (hb9.mono hBr.size)
                clear HU hBr hb9 d0 d1 d2
                go_wp2
                go_ret
                exact ⟨by simp, hB9⟩
          · have g1i : ¬ (i : Int) < (len1 : Int) := by omega
            have g1d : decide ((i : Int) < (len1 : Int)) = false := decide_eq_false g1i
            obtain ⟨u1, u2, u3⟩ := HK.out i G H S ss HRun.out i2 (by omega) HS.out.1
            have HU := (show Hid _ from hU _ _ _ _ _ _ _ _ (t : Int) _ H0r hS hsr)
            rw [u1, u2, u3] at HU
            clear u1 u2 u3 H0 H0r hS HS HRun HI HK HPk HPs hP hU c0 c1 c2 HN HRs hbr hB3
            go_wp2_with fail
            refine Calls.mono HU.out ?_
            rintro e w9 ⟨gx, gy, ge, rfl, ⟨_, h, _⟩ | ⟨-, rfl, rfl, rfl⟩, hb9⟩
            · cases h
            · have hB9 := hBr.trans (hb9.mono hBr.size)
              clear HU hBr hb9 d0 d1 d2
              go_wp2
              go_ret
              exact ⟨by simp, hB9⟩
    · clear H0 HPs c0 c1 c2 hP hU
      go_wp2
      go_ret
      exact ⟨rfl, hB3⟩
end Go.Proofs.Ytambpcgdaogojaa

/-
  Contracts of Below and Small of the document's tapes.
-/
import Derived.Test.YtppfkmbclpebkaaGreatTapeG
import Derived.Test.YtppfkmbclpebkaaGreatRefMovesA
import Derived.Test.YtppfkmbclpebkaaGreatRefRead
namespace Go.Proofs.YtppfkmbclpebkaaGreat
open Go.RowKit

theorem shr_of {xs ts : List Int} {v e : Int} {W : Nat} (hr : rightB xs = true) (hv : val 18446744073709551616 xs = v) (h : ResShr xs W ts e) : Digs 18446744073709551616 ts ∧ rightB ts = true ∧ val 18446744073709551616 ts = v / 2 ^ W := by
  unfold ResShr at h
  rw [hr, if_pos (by simp)] at h
  obtain ⟨_, d, t, l, hv2⟩ := h
  refine ⟨d, right_mk l t, ?_⟩
  rw [hv2, hv]; simp

theorem shl_of {ts hs : List Int} {t e : Int} {W : Nat} (hd : Digs 18446744073709551616 ts) (hr : rightB ts = true) (hv : val 18446744073709551616 ts = t) (hW : W ≤ 4096) (hfit : t * 2 ^ W < 18446744073709551616 ^ 64) (h : ResShl ts W hs e) : Digs 18446744073709551616 hs ∧ rightB hs = true ∧ val 18446744073709551616 hs = t * 2 ^ W := by
  unfold ResShl at h
  rw [hr, if_pos (by simp)] at h
  split at h
  · rename_i h0
    obtain ⟨_, rfl⟩ := h
    have : ts = [] := List.eq_nil_of_length_eq_zero h0
    subst this
    simp [val] at hv
    subst hv
    exact ⟨Digs.nil _, rfl, by simp [val]⟩
  · rw [if_neg (by omega), hv] at h
    simp only [Int.toNat_natCast] at h
    obtain ⟨_, a, b, c⟩ := res_fits h hfit
    exact ⟨a, b, c⟩

theorem low_of {xs hs ls : List Int} {v e : Int} {W : Nat} (hx : rightB xs = true) (hh : rightB hs = true) (hxv : val 18446744073709551616 xs = v) (hhv : val 18446744073709551616 hs = v / 2 ^ W * 2 ^ W) (hv0 : 0 ≤ v) (hfit : v < 18446744073709551616 ^ 64) (h : ResSub xs hs ls e) : Res (v % 2 ^ W) ls 0 := by
  have hp := pow_pos' (B := 2) (by decide) W
  have e1 := Int.emod_add_mul_ediv v (2 ^ W)
  have e2 := Int.emod_nonneg v (show (2 : Int) ^ W ≠ 0 by omega)
  have e3 := Int.mul_comm (v / 2 ^ W) (2 ^ W)
  have e4 : v % 2 ^ W ≤ v := by
    have : 0 ≤ 2 ^ W * (v / 2 ^ W) := Int.mul_nonneg (by omega) (Int.ediv_nonneg hv0 (by omega))
    omega
  unfold ResSub at h
  rw [hx, hh, if_pos (show (true && true) = true from rfl), hxv, hhv, if_neg (by omega), show v - v / 2 ^ W * 2 ^ W = v % 2 ^ W by omega] at h
  exact (res_fits0 h (by omega)).1

theorem high_fits {v : Int} {W : Nat} (hv0 : 0 ≤ v) (hfit : v < 18446744073709551616 ^ 64) : v / 2 ^ W * 2 ^ W < 18446744073709551616 ^ 64 := by
  have hp := pow_pos' (B := 2) (by decide) W
  have e1 := Int.emod_add_mul_ediv v (2 ^ W)
  have e2 := Int.emod_nonneg v (show (2 : Int) ^ W ≠ 0 by omega)
  have e3 := Int.mul_comm (v / 2 ^ W) (2 ^ W)
  omega

set_option maxHeartbeats 1600000 in
theorem rbelow_any (a : Option Addr) (la ca : Nat) (zs : List Int) (g : Nat) (L : List Int) (w : World) (h : Nums w a la ca zs) (hT : RTapeAt w g L) :
    Calls Tryz.prog 54 #[.pointer (some ⟨g, 0, none⟩), .slice a la ca] w fun e w' => BelowT RTapeAt w g zs L e w' := by
  have hzl := h.hlen
  have hcm := h.hmax
  have hcp := h.hcap
  have hzd := h.digs
  unfold maxLen at hcm
  cases hr : rightB zs with
  | false =>
    have HR : Hid (ResBelow zs L [] 1 L) := resBelow_wrong (by rw [hr]; simp)
    go_enter Tryz.func54, Tryz.ntmps54
    go_wp2_with fail
    refine (refRight_any _ _ _ _ _ h).mono ?_
    rintro e w1 ⟨rfl, rfl⟩
    rw [hr]
    go_wp2
    go_ret2
    exact ⟨none, 0, 0, [], 1, L, rfl, Nums.nil _, HR.out, hT, World.grownBy.refl _ _⟩
  | true =>
  by_cases hla : la = 0
  · have HR : Hid (ResBelow zs L [] 1 L) := resBelow_wrong (by omega)
    subst hla
    go_enter Tryz.func54, Tryz.ntmps54
    go_wp2_with fail
    refine (refRight_any _ _ _ _ _ h).mono ?_
    rintro e w1 ⟨rfl, rfl⟩
    rw [hr]
    go_wp2
    go_ret2
    exact ⟨none, 0, 0, [], 1, L, rfl, Nums.nil _, HR.out, hT, World.grownBy.refl _ _⟩
  have hne : ((la : Int) == 0) = false := by simp; omega
  go_enter Tryz.func54, Tryz.ntmps54
  go_wp2_with fail
  refine (refRight_any _ _ _ _ _ h).mono ?_
  rintro e w0 ⟨rfl, rfl⟩
  rw [hr]
  go_wp2_with fail
  refine (refOf_any 1 _ (by omega)).mono ?_
  rintro e w1 ⟨oa, on, oc, rfl, ho, hb1⟩
  have h1 := h.below hb1
  have hT1 := hT.below hb1
  clear h hT
  go_wp2_with fail
  refine (refSub_any _ _ _ _ _ _ _ _ _ h1 ho).mono ?_
  rintro e w2 ⟨ma, mn, mc, ms, me, rfl, hm, hmr, hb2⟩
  obtain ⟨md, mr, mt, mv⟩ := sub_one hzd hr (by omega) hmr
  have h2 := h1.below hb2
  have hT2 := hT1.below hb2
  have hB2 := hb1.trans (hb2.mono hb1.size)
  have HM : Hid (val 18446744073709551616 ms = val 18446744073709551616 zs - 1 ∧ zs.length = la) := ⟨mv, hzl⟩
  clear h1 hT1 hb1 hb2 ho hmr mv hzl
  by_cases h0 : bitsZ ms = 0
  · have HR : Hid (ResBelow zs L [] 0 L) := by
      show ResBelow _ _ _ _ _
      unfold ResBelow
      rw [if_pos ⟨hr, by have := HM.out.2; omega⟩]
      exact ⟨ms, md, mt, HM.out.1, by rw [if_pos h0]; exact ⟨rfl, rfl, rfl⟩⟩
    go_wp2_with fail
    refine (refBits_any _ _ _ _ _ hm).mono ?_
    rintro e w3 ⟨rfl, rfl⟩
    rw [h0]
    go_wp2
    go_ret2
    exact ⟨none, 0, 0, [], 0, L, rfl, Nums.nil _, HR.out, hT2, grown_of_below hB2 _⟩
  · obtain ⟨W, k, hW, hk, hW0, hW4, hk0, hk5, hk1, hk2, hk3, -⟩ := try_bytes md mr h0
    have HW : Hid (bitsZ ms = (W : Int) ∧ ((bitsZ ms + 7) / 8).toNat = k) := ⟨hW, hk3⟩
    have HK : Hid (((W : Int) + 7) / 8 = (k : Int)) := hk
    have hWne : ((W : Int) == 0) = false := by simp; omega
    clear hk h0 hk3
    go_wp2_with fail
    refine (refBits_any _ _ _ _ _ hm).mono ?_
    rintro e w3 ⟨rfl, rfl⟩
    rw [hW]
    clear hW hm
    go_wp2
    go_loopg [10] (L.length + 1) (fun q _ wr => ∃ Lc, q = Lc.length + 1 ∧ RTapeAt wr g Lc ∧ Hid (∀ r R, Drawn k (2 ^ W) (val 18446744073709551616 zs) Lc r R → Drawn k (2 ^ W) (val 18446744073709551616 zs) L r R) ∧ Nums wr a la ca zs ∧ w0.grownBy wr (some g))
    case atStart => exact ⟨L, rfl, hT2, fun r R hd => hd, h2, grown_of_below hB2 _⟩
    case round =>
      clear h2 hT2 hB2
      obtain ⟨Lc, hq, hTc, HC, hn, hgr⟩ := hrel
      have hTk : Hid (∀ wx : World, RTapeAt wx g Lc → Calls Tryz.prog 88 #[.pointer (some ⟨g, 0, none⟩), .int .i64 (((W : Int) + 7) / 8)] wx fun e w' => TakeT RTapeAt wx g Lc k e w') := fun wx hx => by
        rw [HK.out]; exact rtake_any g Lc k wx hx
      have hh := hTc.head
      go_wp2_with fail
      refine (hTk.out _ hTc).mono ?_
      rintro e w4 ⟨ta, tl, tc, tb, te, R, rfl, hby, -, hrt, hT4, hg4⟩
      have hn4 := hn.head hg4 hh
      have hgr4 := grown_trans hgr hg4
      clear hTk hTc hn hgr hg4 hh
      by_cases hlen : Lc.length < k
      · obtain ⟨e1, e2, e3⟩ := hrt.over hlen (by omega)
        subst e1
        subst e2
        rw [e3] at hT4
        have HR : Hid (ResBelow zs L [] 7 Lc) := resBelow_of hr (by have := HM.out.2; omega) md mt HM.out.1 HW.out.1 hW0 HW.out.2 (HC.out _ _ (Drawn.over hlen)) (.inl ⟨rfl, rfl, rfl⟩)
        clear hrt hby e3
        go_wp2
        go_ret2
        exact ⟨none, 0, 0, [], 7, Lc, rfl, Nums.nil _, HR.out, hT4, hgr4⟩
      · obtain ⟨rfl, rfl, rfl⟩ := hrt.ok (by omega) (by omega)
        have hll : (Lc.take k).length = k := by simp; omega
        have hvb := bytes_lt hby.digs (k := 512) (by omega)
        obtain ⟨v, hv⟩ : ∃ v, v = val 256 (Lc.take k).reverse := ⟨_, rfl⟩
        have HV : Hid (v = val 256 (Lc.take k).reverse) := hv
        rw [← hv] at hvb
        have hfit : v < 18446744073709551616 ^ 64 := by
          have e : (18446744073709551616 : Int) ^ 64 = 256 ^ 512 := by rw [show (18446744073709551616 : Int) = 256 ^ 8 by decide, ← Int.pow_mul]
          omega
        have HF : Hid (0 ≤ v ∧ v < 18446744073709551616 ^ 64) := ⟨hvb.1, hfit⟩
        clear hrt hv hvb hfit hll
        go_wp2_with fail
        refine (refRead_any _ _ _ _ _ hby).mono ?_
        rintro e w5 ⟨xa, xn, xc, xs, xe, rfl, hx, hxr, hb5⟩
        rw [← HV.out] at hxr
        obtain ⟨xe0, xd, xr, xv⟩ := res_fits hxr HF.out.2
        have hn5 := hn4.below hb5
        have hT5 := hT4.below hb5
        have hgr5 := grown_below hgr4 hb5
        have HXV : Hid (val 18446744073709551616 xs = v) := xv
        clear hxr hby hn4 hT4 hgr4 hb5 xv xe0
        go_wp2_with fail
        refine (refShr_any _ _ _ _ (W : Int) _ hx).mono ?_
        rintro e w6 ⟨sa, sn, sc, ss, se, rfl, hs, hsr, hb6⟩
        obtain ⟨sd, srr, sv⟩ := shr_of xr HXV.out hsr
        have HSV : Hid (val 18446744073709551616 ss = v / 2 ^ W) := sv
        have hn6 := hn5.below hb6
        have hT6 := hT5.below hb6
        have hx6 := hx.below hb6
        have hgr6 := grown_below hgr5 hb6
        clear hsr hn5 hT5 hgr5 hb6 hx sv
        go_wp2_with fail
        refine (refShl_any _ _ _ _ (W : Int) _ hs).mono ?_
        rintro e w7 ⟨ua, un, uc, us, ue, rfl, hu, hur, hb7⟩
        obtain ⟨ud, urr, uv⟩ := shl_of sd srr HSV.out hW4 (high_fits HF.out.1 HF.out.2) hur
        have HUV : Hid (val 18446744073709551616 us = v / 2 ^ W * 2 ^ W) := uv
        have hn7 := hn6.below hb7
        have hT7 := hT6.below hb7
        have hx7 := hx6.below hb7
        have hgr7 := grown_below hgr6 hb7
        clear hur hn6 hT6 hgr6 hb7 hx6 hs uv
        go_wp2_with fail
        refine (refSub_any _ _ _ _ _ _ _ _ _ hx7 hu).mono ?_
        rintro e w8 ⟨la', ln, lc, ls, le, rfl, hl, hlr, hb8⟩
        have hres := low_of xr urr HXV.out HUV.out HF.out.1 HF.out.2 hlr
        have HX : Hid (Res (v % 2 ^ W) ls 0) := hres
        have hlR : rightB ls = true := by
          rcases hres with ⟨_, d, t, l, _⟩ | ⟨e, _⟩
          · exact right_mk l t
          · omega
        have HLV : Hid (val 18446744073709551616 ls = v % 2 ^ W) := by
          rcases hres with ⟨_, _, _, _, e⟩ | ⟨e, _⟩
          · exact e
          · omega
        have hn8 := hn7.below hb8
        have hT8 := hT7.below hb8
        have hgr8 := grown_below hgr7 hb8
        clear hlr hn7 hT7 hgr7 hb8 hx7 hu hres
        obtain ⟨cc, hcc'⟩ : ∃ cc, cc = cmpN ls zs := ⟨_, rfl⟩
        have HCC : Hid (cc = cmpN ls zs) := hcc'
        have hlt : (cc < 0) = (v % 2 ^ W < val 18446744073709551616 zs) := by rw [hcc', cmp_less hlR hr, HLV.out]
        by_cases hv : v % 2 ^ W < val 18446744073709551616 zs
        · have hc0 : cc < 0 := by rw [hlt]; exact hv
          have HR : Hid (ResBelow zs L ls 0 (Lc.drop k)) := resBelow_of hr (by have := HM.out.2; omega) md mt HM.out.1 HW.out.1 hW0 HW.out.2 (HC.out _ _ (Drawn.hit (by omega) (by rw [← HV.out]; exact hv))) (.inr ⟨_, rfl, by rw [← HV.out]; exact HX.out⟩)
          clear hlt hcc' hv
          go_wp2_with fail
          refine (refCmp_any _ _ _ _ _ _ _ _ _ hl hn8).mono ?_
          rintro e w9 ⟨rfl, hb9⟩
          rw [← HCC.out]
          have hT9 := hT8.below hb9
          have hl9 := hl.below hb9
          have hgr9 := grown_below hgr8 hb9
          go_wp2
          go_ret2
          exact ⟨_, _, _, ls, 0, _, rfl, hl9, HR.out, hT9, hgr9⟩
        · have hc0 : decide (cc < 0) = false := by rw [decide_eq_false_iff_not, hlt]; exact hv
          have HC2 : Hid (∀ r R, Drawn k (2 ^ W) (val 18446744073709551616 zs) (Lc.drop k) r R → Drawn k (2 ^ W) (val 18446744073709551616 zs) L r R) := fun r R hd => HC.out r R (Drawn.miss (by omega) (by rw [← HV.out]; exact hv) hd)
          clear hlt hcc' hv
          go_wp2_with fail
          refine (refCmp_any _ _ _ _ _ _ _ _ _ hl hn8).mono ?_
          rintro e w9 ⟨rfl, hb9⟩
          rw [← HCC.out]
          have hT9 := hT8.below hb9
          have hn9 := hn8.below hb9
          have hgr9 := grown_below hgr8 hb9
          clear hl hn8 hT8 hgr8 hb9 HX HXV HV HSV HUV HLV HF
          go_wp2
          go_roundg ((Lc.drop k).length + 1)
          case measure => rw [hq, List.length_drop]; omega
          case rel => exact ⟨_, rfl, hT9, HC2, hn9, hgr9⟩

end Go.Proofs.YtppfkmbclpebkaaGreat

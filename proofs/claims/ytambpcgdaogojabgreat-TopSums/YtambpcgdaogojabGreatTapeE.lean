/-
  Contracts of drawn, Below and Small of the program's tapes.
-/
import Derived.Test.YtambpcgdaogojabGreatTapeD
namespace Go.Proofs.YtambpcgdaogojabGreat
open Go.RowKit

theorem sub_one {zs ms : List Int} {e : Int} (hd : Digs 18446744073709551616 zs) (hr : rightB zs = true) (hp : 0 < zs.length) (h : ResSub zs (ofZ 1) ms e) :
    Digs 18446744073709551616 ms ∧ rightB ms = true ∧ Top ms ∧ val 18446744073709551616 ms = val 18446744073709551616 zs - 1 := by
  have h1 : 1 ≤ val 18446744073709551616 zs := by
    have := val_ge (B := 18446744073709551616) (by decide) hd (right_top hr) (by intro e; subst e; simp at hp)
    have := pow_pos' (B := 18446744073709551616) (by decide) (zs.length - 1)
    omega
  have hv1 : val 18446744073709551616 (ofZ 1) = 1 := by decide
  have hr1 : rightB (ofZ 1) = true := by decide
  unfold ResSub at h
  rw [hr, hr1, if_pos (show (true && true) = true from rfl), hv1, if_neg (by omega)] at h
  have hlt := val_lt_pow (B := 18446744073709551616) (by decide) hd (right_len hr)
  obtain ⟨_, a, b, c⟩ := res_fits h (by omega)
  exact ⟨a, b, right_top b, c⟩

/-- How many bytes a try takes. -/
theorem try_bytes {ms : List Int} (hd : Digs 18446744073709551616 ms) (hr : rightB ms = true) (h0 : bitsZ ms ≠ 0) :
    ∃ W k : Nat, bitsZ ms = (W : Int) ∧ ((W : Int) + 7) / 8 = (k : Int) ∧ 0 < W ∧ W ≤ 4096 ∧ 0 < k ∧ k ≤ 512 ∧ 8 * k < W + 8 ∧ W ≤ 8 * k ∧ ((bitsZ ms + 7) / 8).toNat = k ∧ (bitsZ ms).toNat = W := by
  have hb := bits_lt hd hr (E := (val 18446744073709551616 ms).toNat) (by have := val_nonneg (B := 18446744073709551616) (by decide) hd; omega)
  have hl := right_len hr
  refine ⟨(bitsZ ms).toNat, ((bitsZ ms + 7) / 8).toNat, ?_, ?_, ?_, ?_, ?_, ?_, ?_, ?_, rfl, rfl⟩ <;> omega

theorem cmp_less {xs zs : List Int} (hx : rightB xs = true) (hz : rightB zs = true) : (cmpN xs zs < 0) = (val 18446744073709551616 xs < val 18446744073709551616 zs) := by
  unfold cmpN cmpZ
  rw [hx, hz, if_pos (show (true && true) = true from rfl)]
  apply propext
  split
  · simp_all
  · split <;> simp_all

/-- What a draw makes of a tape. -/
def BelowT (At : World → Nat → List Int → Prop) (w : World) (g : Nat) (zs L : List Int) (e : Ending) (w' : World) : Prop :=
  ∃ a n c ls err R, e = .returned (.tuple #[.slice a n c, .int .i64 err]) ∧ Nums w' a n c ls ∧ ResBelow zs L ls err R ∧ At w' g R ∧ w.grownBy w' (some g)

theorem resBelow_of {zs ms L ls : List Int} {err : Int} {R : List Int} {r : Option Int} {W k : Nat} (hr : rightB zs = true) (hp : 0 < zs.length) (hd : Digs 18446744073709551616 ms) (ht : Top ms) (hv : val 18446744073709551616 ms = val 18446744073709551616 zs - 1)
    (hW : bitsZ ms = (W : Int)) (hW0 : 0 < W) (hk : ((bitsZ ms + 7) / 8).toNat = k) (h : Drawn k (2 ^ W) (val 18446744073709551616 zs) L r R) (he : (r = none ∧ ls = [] ∧ err = 7) ∨ (∃ x, r = some x ∧ Res x ls err)) : ResBelow zs L ls err R := by
  unfold ResBelow
  rw [if_pos ⟨hr, hp⟩]
  refine ⟨ms, hd, ht, hv, ?_⟩
  rw [if_neg (by omega), hk, show (bitsZ ms).toNat = W by omega]
  exact ⟨r, h, he⟩

theorem grown_below {w w' w2 : World} {g : Nat} (h : w.grownBy w' (some g)) (hb : Below w'.heap.size w' w2) : w.grownBy w2 (some g) := grown_trans h (grown_of_below hb _)

set_option maxHeartbeats 1600000 in
theorem drawn_any (a : Option Addr) (la ca : Nat) (zs : List Int) (g : Nat) (L : List Int) (w : World) (h : Nums w a la ca zs) (hr : rightB zs = true) (hp : 0 < la) (hT : TapeAt w g L) :
    Calls Tryz.prog 86 #[.slice a la ca, .func (.func 87) #[.pointer (some ⟨g, 0, none⟩)] #[]] w fun e w' => BelowT TapeAt w g zs L e w' := by
  have hzl := h.hlen
  have hzd := h.digs
  go_enter Tryz.func86, Tryz.ntmps86
  go_wp2_with fail
  refine (of_any 1 _ (by omega)).mono ?_
  rintro e w1 ⟨oa, on, oc, rfl, ho, hb1⟩
  have h1 := h.below hb1
  have hT1 := hT.below hb1
  clear h hT
  go_wp2_with fail
  refine (sub_any _ _ _ _ _ _ _ _ _ h1 ho).mono ?_
  rintro e w2 ⟨ma, mn, mc, ms, me, rfl, hm, hmr, -, hb2⟩
  obtain ⟨md, mr, mt, mv⟩ := sub_one hzd hr (by omega) hmr
  have h2 := h1.below hb2
  have hT2 := hT1.below hb2
  have hB2 := hb1.trans (hb2.mono hb1.size)
  have HM : Hid (val 18446744073709551616 ms = val 18446744073709551616 zs - 1 ∧ zs.length = la) := ⟨mv, hzl⟩
  clear h1 hT1 hb1 hb2 ho hmr mv hzl
  by_cases h0 : bitsZ ms = 0
  · have HR : Hid (ResBelow zs L [] 0 L) := by
      show ResBelow _ _ _ _ _
      unfold ResBelow
      rw [if_pos ⟨hr, by have := HM.out.2; omega⟩]
      exact ⟨ms, md, mt, HM.out.1, by rw [if_pos h0]; exact ⟨rfl, rfl, rfl⟩⟩
    go_wp2_with fail
    refine (bits_any _ _ _ _ _ hm).mono ?_
    rintro e w3 ⟨rfl, rfl⟩
    rw [h0]
    go_wp2
    go_ret2
    exact ⟨none, 0, 0, [], 0, L, rfl, Nums.nil _, HR.out, hT2, grown_of_below hB2 _⟩
  · obtain ⟨W, k, hW, hk, hW0, hW4, hk0, hk5, hk1, hk2, hk3, -⟩ := try_bytes md mr h0
    have HW : Hid (bitsZ ms = (W : Int) ∧ ((bitsZ ms + 7) / 8).toNat = k) := ⟨hW, hk3⟩
    have HK : Hid (((W : Int) + 7) / 8 = (k : Int)) := hk
    have hWne : ((W : Int) == 0) = false := by simp; omega
    clear hk h0 hk3
    go_wp2_with fail
    refine (bits_any _ _ _ _ _ hm).mono ?_
    rintro e w3 ⟨rfl, rfl⟩
    rw [hW]
    clear hW hm
    go_wp2
    go_loopg [9] (L.length + 1) (fun q _ wr => ∃ Lc, q = Lc.length + 1 ∧ TapeAt wr g Lc ∧ Hid (∀ r R, Drawn k (2 ^ W) (val 18446744073709551616 zs) Lc r R → Drawn k (2 ^ W) (val 18446744073709551616 zs) L r R) ∧ Nums wr a la ca zs ∧ w.grownBy wr (some g))
    case atStart => exact ⟨L, rfl, hT2, fun r R hd => hd, h2, grown_of_below hB2 _⟩
    case round =>
      clear h2 hT2 hB2
      obtain ⟨Lc, hq, hTc, HC, hn, hgr⟩ := hrel
      have hTk : Hid (∀ wx : World, TapeAt wx g Lc → Calls Tryz.prog 87 #[.pointer (some ⟨g, 0, none⟩), .int .i64 (((W : Int) + 7) / 8)] wx fun e w' => TakeT TapeAt wx g Lc k e w') := fun wx hx => by
        rw [HK.out]; exact take_any g Lc k wx hx
      have hh := hTc.head
      have hgw := hTc.lt
      go_wp2_with fail
      refine (hTk.out _ hTc).mono ?_
      rintro e w4 ⟨ta, tl, tc, tb, te, R, rfl, hby, hfr, hrt, hT4, hg4⟩
      have hn4 := hn.head hg4 hh
      have hgr4 := grown_trans hgr hg4
      have hsz := hg4.size
      clear hTk hTc
      by_cases hlen : Lc.length < k
      · obtain ⟨e1, e2, e3⟩ := hrt.over hlen (by omega)
        subst e1
        subst e2
        rw [e3] at hT4
        have HR : Hid (ResBelow zs L [] 7 Lc) := resBelow_of hr (by have := HM.out.2; omega) md mt HM.out.1 HW.out.1 hW0 HW.out.2 (HC.out _ _ (Drawn.over hlen)) (.inl ⟨rfl, rfl, rfl⟩)
        clear hrt hby hfr e3 hn hgr hg4 hh
        go_wp2
        go_ret2
        exact ⟨none, 0, 0, [], 7, Lc, rfl, Nums.nil _, HR.out, hT4, hgr4⟩
      · obtain ⟨rfl, rfl, rfl⟩ := hrt.ok (by omega) (by omega)
        have htl := hby.hlen
        have hll : (Lc.take k).length = k := by simp; omega
        have hkl : tl = k := by omega
        subst hkl
        obtain ⟨b, rfl, hbs, hbb, hbt⟩ := hfr hk0
        have hcc := hby.hcap
        have hcm := hby.hmax
        have hdg := hby.digs
        have hne := hT4.lt
        obtain ⟨v, hv⟩ : ∃ v, v = val 256 (Lc.take tl).reverse % 2 ^ W := ⟨_, rfl⟩
        have HV : Hid (v = val 256 (Lc.take tl).reverse % 2 ^ W) := hv
        have hgl := hgr4.size
        clear hrt hfr htl hby hv
        go_wp2_with fail
        refine (lowest_any b tl tc _ W _ hbb hdg hll hcc hcm hk5 hk1 hk2 hW0).mono ?_
        rintro e w5 ⟨xa, xn, xc, xs, rfl, hx, hxr, hb5⟩
        rw [← HV.out] at hxr
        have HX : Hid (Res v xs 0) := hxr
        have hxR : rightB xs = true := by
          rcases hxr with ⟨_, d, t, l, _⟩ | ⟨e, _⟩
          · exact right_mk l t
          · omega
        have HXV : Hid (val 18446744073709551616 xs = v) := by
          rcases hxr with ⟨_, _, _, _, e⟩ | ⟨e, _⟩
          · exact e
          · omega
        have hg5 : wr.grownBy w5 (some g) := ⟨hb5.os.trans hg4.os, hb5.tape.trans hg4.tape, hb5.output.trans hg4.output, Nat.le_trans hg4.size hb5.size, fun q hq hne => (hb5.block q (by omega) (by simp; omega)).trans (hg4.block q hq hne)⟩
        have hn5 : Nums w5 a la ca zs := hn.head hg5 hh
        have hT5 : TapeAt w5 g (Lc.drop tl) := hbt w5 hb5
        have hgr5 : w.grownBy w5 (some g) := grown_trans hgr hg5
        clear hbb hn4 hT4 hgr4 hxr hn hgr hg4 hg5 hb5 hbt hh
        obtain ⟨cc, hcc'⟩ : ∃ cc, cc = cmpN xs zs := ⟨_, rfl⟩
        have HCC : Hid (cc = cmpN xs zs) := hcc'
        have hlt : (cc < 0) = (v < val 18446744073709551616 zs) := by rw [hcc', cmp_less hxR hr, HXV.out]
        by_cases hv : v < val 18446744073709551616 zs
        · have hc0 : cc < 0 := by rw [hlt]; exact hv
          have HR : Hid (ResBelow zs L xs 0 (Lc.drop tl)) := resBelow_of hr (by have := HM.out.2; omega) md mt HM.out.1 HW.out.1 hW0 HW.out.2 (HC.out _ _ (Drawn.hit (by omega) (by rw [← HV.out]; exact hv))) (.inr ⟨_, rfl, by rw [← HV.out]; exact HX.out⟩)
          clear hlt hcc' hv
          go_wp2_with fail
          refine (cmp_any _ _ _ _ _ _ _ _ _ hx hn5).mono ?_
          rintro e w6 ⟨rfl, hb6⟩
          rw [← HCC.out]
          have hT6 := hT5.below hb6
          have hx6 := hx.below hb6
          have hgr6 := grown_below hgr5 hb6
          go_wp2
          go_ret2
          exact ⟨_, _, _, xs, 0, _, rfl, hx6, HR.out, hT6, hgr6⟩
        · have hc0 : decide (cc < 0) = false := by rw [decide_eq_false_iff_not, hlt]; exact hv
          have HC2 : Hid (∀ r R, Drawn tl (2 ^ W) (val 18446744073709551616 zs) (Lc.drop tl) r R → Drawn tl (2 ^ W) (val 18446744073709551616 zs) L r R) := fun r R hd => HC.out r R (Drawn.miss (by omega) (by rw [← HV.out]; exact hv) hd)
          clear hlt hcc' hv
          go_wp2_with fail
          refine (cmp_any _ _ _ _ _ _ _ _ _ hx hn5).mono ?_
          rintro e w6 ⟨rfl, hb6⟩
          rw [← HCC.out]
          have hT6 := hT5.below hb6
          have hn6 := hn5.below hb6
          have hgr6 := grown_below hgr5 hb6
          clear hx hn5 hT5 hgr5 hb6 HX HXV HV
          go_wp2
          go_roundg ((Lc.drop tl).length + 1)
          case measure => rw [hq, List.length_drop]; omega
          case rel => exact ⟨_, rfl, hT6, HC2, hn6, hgr6⟩
end Go.Proofs.YtambpcgdaogojabGreat

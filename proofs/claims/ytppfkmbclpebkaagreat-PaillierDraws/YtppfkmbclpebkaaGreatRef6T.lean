/-
  The contract of the document's Draw.
-/
import Derived.Test.YtppfkmbclpebkaaGreatP6Draw
import Derived.Test.YtppfkmbclpebkaaGreatRef6B
import Derived.Test.YtppfkmbclpebkaaGreatTapeH
namespace Go.Proofs.YtppfkmbclpebkaaGreat
open Go.RowKit

set_option maxHeartbeats 1600000 in
theorem r6draw_nil (a b : Option Addr) (la ca lb cb : Nat) (ns ms : List Int) (w : World) (h : Nums w a la ca ns) (h' : Nums w b lb cb ms) :
    Calls Tryz.prog 20 #[.slice a la ca, .slice b lb cb, .pointer none] w fun e w' => e = .returned (.tuple #[.slice none 0 0, .int .i64 (noneF ns ms)]) ∧ Below w.heap.size w w' := by
  have HM := (show Hid _ from r6may_any _ _ _ _ _ h)
  cases hm : pubB ns with
  | false =>
    rw [hm] at HM
    have hF : noneF ns ms = 1 := by simp [noneF, hm]
    rw [hF]
    clear hF
    clear h h'
    go_enter Tryz.func20, Tryz.ntmps20
    go_wp2_with fail
    refine Calls.mono HM.out ?_
    rintro e w1 ⟨rfl, rfl⟩
    clear HM
    go_wp2
    go_ret2
    exact ⟨rfl, Below.refl _ _⟩
  | true =>
    rw [hm] at HM
    obtain ⟨rn, n1, n2, n3⟩ := (pubB_iff ns).1 hm
    have H2 := (show Hid _ from r6plain_any _ _ _ _ _ _ _ _ _ h h' rn)
    cases h2 : plainB ns ms with
    | false =>
      rw [h2] at H2
      have hF : noneF ns ms = 10 := by simp [noneF, hm, h2]
      rw [hF]
      clear hF
      clear h h'
      go_enter Tryz.func20, Tryz.ntmps20
      go_wp2_with fail
      refine Calls.mono HM.out ?_
      rintro e w1 ⟨rfl, rfl⟩
      go_wp2_with fail
      refine Calls.mono H2.out ?_
      rintro e w2 ⟨rfl, hb2⟩
      clear HM H2
      go_wp2
      go_ret2
      exact ⟨rfl, hb2⟩
    | true =>
      rw [h2] at H2
      have hF : noneF ns ms = 1 := by simp [noneF, hm, h2]
      rw [hF]
      clear hF
      clear h h'
      go_enter Tryz.func20, Tryz.ntmps20
      go_wp2_with fail
      refine Calls.mono HM.out ?_
      rintro e w1 ⟨rfl, rfl⟩
      go_wp2_with fail
      refine Calls.mono H2.out ?_
      rintro e w2 ⟨rfl, hb2⟩
      clear HM H2
      go_wp2
      go_ret2
      exact ⟨rfl, hb2⟩

set_option maxRecDepth 20000 in
set_option maxHeartbeats 3200000 in
theorem r6draw_any (a b : Option Addr) (la ca lb cb : Nat) (ns ms : List Int) (g : Nat) (L : List Int) (w : World) (h : Nums w a la ca ns) (h' : Nums w b lb cb ms) (hT : RTapeAt w g L) :
    Calls Tryz.prog 20 #[.slice a la ca, .slice b lb cb, .pointer (some ⟨g, 0, none⟩)] w fun e w' => DrawT RTapeAt w g ns ms L e w' := by
  have HM := (show Hid _ from r6may_any _ _ _ _ _ h)
  cases hm : pubB ns with
  | false =>
    rw [hm] at HM
    clear h h'
    go_enter Tryz.func20, Tryz.ntmps20
    go_wp2_with fail
    refine Calls.mono HM.out ?_
    rintro e w1 ⟨rfl, rfl⟩
    clear HM
    go_wp2
    go_ret2
    exact ⟨none, 0, 0, [], 1, L, rfl, Nums.nil _, .inl ⟨hm, rfl, rfl, rfl⟩, hT, World.grownBy.refl _ _⟩
  | true =>
    rw [hm] at HM
    obtain ⟨rn, n1, n2, n3⟩ := (pubB_iff ns).1 hm
    have hn := IsN.self h.digs rn
    have pn := hn.pos (by omega)
    have hnd := h.digs
    have hv2 : 2 ≤ val 18446744073709551616 ns := by rw [hn.2.2]; omega
    have H2 := (show Hid _ from r6plain_any _ _ _ _ _ _ _ _ _ h h' rn)
    cases h2 : plainB ns ms with
    | false =>
      rw [h2] at H2
      clear h h'
      go_enter Tryz.func20, Tryz.ntmps20
      go_wp2_with fail
      refine Calls.mono HM.out ?_
      rintro e w1 ⟨rfl, rfl⟩
      go_wp2_with fail
      refine Calls.mono H2.out ?_
      rintro e w2 ⟨rfl, hb2⟩
      have hT2 := hT.below hb2
      clear HM H2 hT
      go_wp2
      go_ret2
      exact ⟨none, 0, 0, [], 10, L, rfl, Nums.nil _, .inr (.inl ⟨hm, h2, rfl, rfl, rfl⟩), hT2, grown_of_below hb2 _⟩
    | true =>
      rw [h2] at H2
      have HRD : Hid (∀ rs e ls err R, Hide ns L rs e R → ((e ≠ 0 ∧ ls = [] ∧ err = e) ∨ (e = 0 ∧ Told (encF ns ms rs) (encV ns ms rs) ls err)) → ResDraw ns ms L ls err R) := fun rs e ls err R k1 k2 => .inr (.inr ⟨hm, h2, rs, e, k1, k2⟩)
      go_enter Tryz.func20, Tryz.ntmps20
      go_wp2_with fail
      refine Calls.mono HM.out ?_
      rintro e w1 ⟨rfl, rfl⟩
      go_wp2_with fail
      refine Calls.mono H2.out ?_
      rintro e w2 ⟨rfl, hb2⟩
      have hT2 := hT.below hb2
      have k := h.below hb2
      have k' := h'.below hb2
      clear HM H2 hT h h'
      obtain ⟨w0, hw0⟩ : ∃ w0, w0 = w1 := ⟨_, rfl⟩
      subst hw0
      go_wp2
      go_loopg [10] (L.length + 1) (fun q _ wr => ∃ Lc, q = Lc.length + 1 ∧ RTapeAt wr g Lc ∧ Hid (∀ rs e R, Hide ns Lc rs e R → Hide ns L rs e R) ∧ Nums wr a la ca ns ∧ Nums wr b lb cb ms ∧ w0.grownBy wr (some g))
      case atStart => exact ⟨L, rfl, hT2, fun rs e R hd => hd, k, k', grown_of_below hb2 _⟩
      case round =>
        clear k k' hT2 hb2
        obtain ⟨Lc, hq, hTc, HC, m, m', hgr⟩ := hrel
        have hh := hTc.head
        go_wp2_with fail
        refine (rbelow_any _ _ _ _ _ _ _ m hTc).mono ?_
        rintro e w4 ⟨ra, rl, rc, rs, re, R, rfl, hR, hres, hT4, hg4⟩
        have o := m.head hg4 hh
        have o' := m'.head hg4 hh
        have hgr4 := grown_trans hgr hg4
        clear hTc m m' hgr hg4 hh
        by_cases he : re = 0
        · subst he
          have hless := hres.less hnd rn hv2
          have H3 := (show Hid _ from r6unit_any _ _ _ _ _ _ _ _ _ _ _ _ _ hR o o rn pn rn)
          cases h3 : unitB rs ns (nv ns) with
          | false =>
            rw [h3] at H3
            have HC2 : Hid (∀ rs e R', Hide ns R rs e R' → Hide ns L rs e R') := fun rs' e' R' hd => HC.out _ _ _ (Hide.miss hres h3 hd)
            go_wp2_with fail
            refine Calls.mono H3.out ?_
            rintro e w5 ⟨rfl, hb5⟩
            have hT5 := hT4.below hb5
            have x := o.below hb5
            have x' := o'.below hb5
            have hgr5 := grown_trans hgr4 (grown_of_below hb5 (some g))
            clear H3 HC hR hres hT4 o o' hgr4 hb5
            go_wp2
            go_roundg (R.length + 1)
            case rel => exact ⟨R, rfl, hT5, HC2, x, x', hgr5⟩
            case measure => rw [hq]; omega
          | true =>
            rw [h3] at H3
            have HH := (show Hid _ from HC.out _ _ _ (Hide.hit hres h3))
            go_wp2_with fail
            refine Calls.mono H3.out ?_
            rintro e w5 ⟨rfl, hb5⟩
            have hT5 := hT4.below hb5
            have x := o.below hb5
            have x' := o'.below hb5
            have hR5 := hR.below hb5
            have hgr5 := grown_trans hgr4 (grown_of_below hb5 (some g))
            clear H3 HC hR hres hT4 o o' hgr4 hb5
            go_wp2_with fail
            refine (r6encrypt_any _ _ _ _ _ _ _ _ _ _ _ _ _ x x' hR5).mono ?_
            rintro e w6 ⟨ya, yl, yc, ys, ye, rfl, hY, tY, hb6⟩
            have hT6 := hT5.below hb6
            have hgr6 := grown_trans hgr5 (grown_of_below hb6 (some g))
            have HF : Hid (ResDraw ns ms L ys ye R) := HRD.out _ _ _ _ _ HH.out (.inr ⟨rfl, tY⟩)
            clear HH HRD x x' hR5 hT5 hgr5 hb6 tY
            go_wp2
            go_ret2
            exact ⟨ya, yl, yc, ys, ye, R, rfl, hY, HF.out, hT6, hgr6⟩
        · have hne : (re != 0) = true := by simp [he]
          have HF : Hid (ResDraw ns ms L [] re R) := HRD.out _ _ _ _ _ (HC.out _ _ _ (Hide.over hres he)) (.inl ⟨he, rfl, rfl⟩)
          clear HC HRD hres hR o o'
          go_wp2
          go_ret2
          exact ⟨none, 0, 0, [], re, R, rfl, Nums.nil _, HF.out, hT4, hgr4⟩
end Go.Proofs.YtppfkmbclpebkaaGreat

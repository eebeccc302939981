/-
  The contract of package paillier's Draw.
-/
import Derived.Test.YtambpcgdaogojabGreatQA
import Derived.Test.YtambpcgdaogojabGreatTapeP
import Derived.Test.YtambpcgdaogojabGreatP6A
import Derived.Test.YtambpcgdaogojabGreatR6T
namespace Go.Proofs.YtambpcgdaogojabGreat
open Go.RowKit

/-- What is drawn of a tape to hide behind, as it lies in memory. -/
def HiderT (w : World) (g : Nat) (ns L : List Int) (e : Ending) (w' : World) : Prop :=
  ∃ a l c ls err R, e = .returned (.tuple #[.slice a l c, .int .i64 err]) ∧ Nums w' a l c ls ∧ (∃ rs, Hide ns L rs err R ∧ (err = 0 → ls = rs)) ∧ TapeAt w' g R ∧ w.grownBy w' (some g)

set_option maxRecDepth 20000 in
set_option maxHeartbeats 1600000 in
theorem hider_any (a : Option Addr) (la ca : Nat) (ns : List Int) (g : Nat) (L : List Int) (w : World) (h : Nums w a la ca ns) (hp : pubB ns = true) (hT : TapeAt w g L) :
    Calls Tryz.prog 23 #[.slice a la ca, .pointer (some ⟨g, 0, none⟩)] w fun e w' => HiderT w g ns L e w' := by
  obtain ⟨rn, n1, n2, n3⟩ := (pubB_iff ns).1 hp
  have hn := IsN.self h.digs rn
  have hnd := h.digs
  have hv2 : 2 ≤ val 18446744073709551616 ns := by rw [hn.2.2]; omega
  have hn2 : 2 ≤ nv ns := by omega
  have HN : Hid (IsN ns (nv ns) ∧ 2 ≤ nv ns) := ⟨hn, hn2⟩
  clear hp n1 n2 n3 hn hn2
  go_enter Tryz.func23, Tryz.ntmps23
  go_wp2
  go_loopg [9] (L.length + 1) (fun q _ wr => ∃ Lc, q = Lc.length + 1 ∧ TapeAt wr g Lc ∧ Hid (∀ rs e R, Hide ns Lc rs e R → Hide ns L rs e R) ∧ Nums wr a la ca ns ∧ w.grownBy wr (some g))
  case atStart => exact ⟨L, rfl, hT, fun rs e R hd => hd, h, World.grownBy.refl _ _⟩
  case round =>
    clear h hT
    obtain ⟨Lc, hq, hTc, HC, m, hgr⟩ := hrel
    have hh := hTc.head
    go_wp2_with fail
    refine (tbelow_any _ _ _ _ _ _ _ m hTc).mono ?_
    rintro e w4 ⟨ra, rl, rc, rs, re, R, rfl, hR, hres, hT4, hg4⟩
    have o := m.head hg4 hh
    have hgr4 := grown_trans hgr hg4
    clear hTc m hgr hg4 hh
    by_cases he : re = 0
    · subst he
      have hless := hres.less hnd rn hv2
      have H3 := (show Hid _ from phider_any _ _ _ _ _ _ _ _ _ _ o hR HN.out.1 HN.out.2)
      cases h3 : unitB rs ns (nv ns) with
      | false =>
        rw [h3] at H3
        have HC2 : Hid (∀ rs e R', Hide ns R rs e R' → Hide ns L rs e R') := fun rs' e' R' hd => HC.out _ _ _ (Hide.miss hres h3 hd)
        go_wp2_with fail
        refine Calls.mono H3.out ?_
        rintro e w5 ⟨rfl, hb5⟩
        have hT5 := hT4.below hb5
        have x := o.below hb5
        have hgr5 := grown_trans hgr4 (grown_of_below hb5 (some g))
        clear H3 HC hR hres hT4 o hgr4 hb5
        go_wp2
        go_roundg (R.length + 1)
        case rel => exact ⟨R, rfl, hT5, HC2, x, hgr5⟩
        case measure => rw [hq]; omega
      | true =>
        rw [h3] at H3
        have HH := (show Hid _ from HC.out _ _ _ (Hide.hit hres h3))
        go_wp2_with fail
        refine Calls.mono H3.out ?_
        rintro e w5 ⟨rfl, hb5⟩
        have hT5 := hT4.below hb5
        have hR5 := hR.below hb5
        have hgr5 := grown_trans hgr4 (grown_of_below hb5 (some g))
        clear H3 HC hR hres hT4 o hgr4 hb5
        go_wp2
        go_ret2
        exact ⟨ra, rl, rc, rs, 0, R, rfl, hR5, ⟨rs, HH.out, fun _ => rfl⟩, hT5, hgr5⟩
    · have hne : (re != 0) = true := by simp [he]
      have HH := (show Hid _ from HC.out _ _ _ (Hide.over hres he))
      clear HC hres hR o
      go_wp2
      go_ret2
      exact ⟨none, 0, 0, [], re, R, rfl, Nums.nil _, ⟨rs, HH.out, fun e => absurd e he⟩, hT4, hgr4⟩

theorem draw_split (ns ms : List Int) : ((if pubB ns then (if plainB ns ms then (0 : Int) else 10) else 1) = 0 ∧ pubB ns = true ∧ plainB ns ms = true ∧ noneF ns ms = 1) ∨
    ((if pubB ns then (if plainB ns ms then (0 : Int) else 10) else 1) ≠ 0 ∧ noneF ns ms = (if pubB ns then (if plainB ns ms then (0 : Int) else 10) else 1) ∧ (∀ L, ResDraw ns ms L [] (if pubB ns then (if plainB ns ms then (0 : Int) else 10) else 1) L)) := by
  unfold noneF ResDraw
  cases pubB ns <;> cases plainB ns ms <;> simp

set_option maxRecDepth 20000 in
set_option maxHeartbeats 1600000 in
theorem draw_nil6 (a b : Option Addr) (la ca lb cb : Nat) (ns ms : List Int) (w : World) (h : Nums w a la ca ns) (h' : Nums w b lb cb ms) :
    Calls Tryz.prog 8 #[.slice a la ca, .slice b lb cb, .pointer none] w fun e w' => ∃ x l c, e = .returned (.tuple #[.slice x l c, .int .i64 (noneF ns ms)]) ∧ Nums w' x l c [] ∧ Below w.heap.size w w' := by
  have hdg := h.digs
  have hS := draw_split ns ms
  go_enter Tryz.func8, Tryz.ntmps8
  go_wp2_with fail
  refine (mkplain_any _ _ _ _).mono ?_
  rintro e w1 ⟨rfl, hb1⟩
  have k := h.below hb1
  have k' := h'.below hb1
  have HF := (show Hid _ from fault1_any _ _ _ _ _ 10 _ _ _ _ _ _ k k' (fun hp => kind_plain hp hdg))
  clear h h'
  go_wp2_with fail
  refine Calls.mono HF.out ?_
  rintro e w2 ⟨rfl, hb2⟩
  have hB2 := hb1.trans (hb2.mono hb1.size)
  clear HF k k' hb1 hb2
  obtain ⟨x, hx⟩ : ∃ x, x = (if pubB ns then (if plainB ns ms then (0 : Int) else 10) else 1) := ⟨_, rfl⟩
  rw [← hx] at hS
  rw [← hx]
  clear hx
  rcases hS with ⟨rfl, -, -, hF⟩ | ⟨hne, hF, -⟩
  · have HF : Hid (noneF ns ms = 1) := hF
    clear hF
    go_wp2
    go_ret2
    exact ⟨none, 0, 0, by rw [HF.out]; rfl, Nums.nil _, hB2⟩
  · have HF : Hid (noneF ns ms = x) := hF
    have hz0 : (x == 0) = false := by simpa using hne
    clear hF hne
    go_wp2
    go_ret2
    exact ⟨none, 0, 0, by rw [HF.out]; rfl, Nums.nil _, hB2⟩

set_option maxRecDepth 20000 in
set_option maxHeartbeats 3200000 in
theorem draw_tape6 (a b : Option Addr) (la ca lb cb : Nat) (ns ms : List Int) (g : Nat) (L : List Int) (w : World) (h : Nums w a la ca ns) (h' : Nums w b lb cb ms) (hT : TapeAt w g L) :
    Calls Tryz.prog 8 #[.slice a la ca, .slice b lb cb, .pointer (some ⟨g, 0, none⟩)] w fun e w' => DrawT TapeAt w g ns ms L e w' := by
  have hdg := h.digs
  have hS := draw_split ns ms
  go_enter Tryz.func8, Tryz.ntmps8
  go_wp2_with fail
  refine (mkplain_any _ _ _ _).mono ?_
  rintro e w1 ⟨rfl, hb1⟩
  have k := h.below hb1
  have k' := h'.below hb1
  have hT1 := hT.below hb1
  have HF := (show Hid _ from fault1_any _ _ _ _ _ 10 _ _ _ _ _ _ k k' (fun hp => kind_plain hp hdg))
  clear h h' hT
  go_wp2_with fail
  refine Calls.mono HF.out ?_
  rintro e w2 ⟨rfl, hb2⟩
  have hB2 := hb1.trans (hb2.mono hb1.size)
  have m := k.below hb2
  have m' := k'.below hb2
  have hT2 := hT1.below hb2
  clear HF k k' hb1 hb2 hT1
  obtain ⟨x, hx⟩ : ∃ x, x = (if pubB ns then (if plainB ns ms then (0 : Int) else 10) else 1) := ⟨_, rfl⟩
  rw [← hx] at hS
  rw [← hx]
  clear hx
  rcases hS with ⟨rfl, hp, hm, -⟩ | ⟨hne, -, hF⟩
  · have HRD : Hid (∀ rs e ls err R, Hide ns L rs e R → ((e ≠ 0 ∧ ls = [] ∧ err = e) ∨ (e = 0 ∧ Told (encF ns ms rs) (encV ns ms rs) ls err)) → ResDraw ns ms L ls err R) := fun rs e ls err R k1 k2 => .inr (.inr ⟨hp, hm, rs, e, k1, k2⟩)
    have hh := hT2.head
    go_wp2_with fail
    refine (hider_any _ _ _ _ _ _ _ m hp hT2).mono ?_
    rintro e w3 ⟨ra, rl, rc, ls, re, R, rfl, hR, ⟨rs, hH, hls⟩, hT3, hg3⟩
    have o := m.head hg3 hh
    have o' := m'.head hg3 hh
    have hgr := grown_trans (grown_of_below hB2 (some g)) hg3
    clear m m' hT2 hg3 hh hB2
    by_cases he : re = 0
    · subst he
      obtain rfl := hls rfl
      have HH : Hid (Hide ns L ls 0 R) := hH
      clear hH hls
      go_wp2_with fail
      refine (enc_ok6 _ _ _ _ _ _ _ _ _ _ _ _ _ o o' hR).mono ?_
      rintro e w6 ⟨ya, yl, yc, ys, ye, rfl, hY, tY, hb6⟩
      have hT6 := hT3.below hb6
      have hgr6 := grown_trans hgr (grown_of_below hb6 (some g))
      have HF : Hid (ResDraw ns ms L ys ye R) := HRD.out _ _ _ _ _ HH.out (.inr ⟨rfl, tY⟩)
      clear HH HRD o o' hR hT3 hgr hb6 tY
      go_wp2
      go_ret2
      exact ⟨ya, yl, yc, ys, ye, R, rfl, hY, HF.out, hT6, hgr6⟩
    · have hne : (re != 0) = true := by simp [he]
      have HF : Hid (ResDraw ns ms L [] re R) := HRD.out _ _ _ _ _ hH (.inl ⟨he, rfl, rfl⟩)
      clear hH hls HRD o o' hR
      go_wp2
      go_ret2
      exact ⟨none, 0, 0, [], re, R, rfl, Nums.nil _, HF.out, hT3, hgr⟩
  · have HF : Hid (ResDraw ns ms L [] x L) := hF L
    have hz0 : (x == 0) = false := by simpa using hne
    have hgr := grown_of_below hB2 (some g)
    clear hF hne m m' hB2
    go_wp2
    go_ret2
    exact ⟨none, 0, 0, [], x, L, rfl, Nums.nil _, HF.out, hT2, hgr⟩

theorem draw_ok6 : DrawOk := ⟨draw_nil6, draw_tape6⟩
end Go.Proofs.YtambpcgdaogojabGreat

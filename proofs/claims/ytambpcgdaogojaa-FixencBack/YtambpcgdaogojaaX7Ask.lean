/-
  Contracts of package fixenc's Encode and Decode, with ask.
-/
import Derived.Test.YtambpcgdaogojaaX7Mod
import Derived.Test.YtambpcgdaogojaaP7LawsO
import Derived.Deep.RegionWith
import Derived.BigRegion
namespace Go.Proofs.Ytambpcgdaogojaa
open Go.RowKit

set_option maxRecDepth 20000 in
set_option maxHeartbeats 3200000 in
theorem askE_any (m : Bool) (a b : Option Addr) (la ca lb cb : Nat) (ns zs : List Int) (w : World) (h : Nums w a la ca ns) (h' : Nums w b lb cb zs) :
    Calls Try.prog 25 #[.slice a la ca, .func (.func 26) #[] #[], .agg #[.bool m, .slice b lb cb]] w fun e w' => TripT (codF ns m zs) (codV (nv ns) (iv m zs)) w e w' := by
  have hV := (Below.refl w.heap.size w).alloc (Nat.le_refl _) (.cells #[.bool m, .slice b lb cb] 25)
  have k := h.below hV
  have k' := h'.below hV
  have HM := (show Hid _ from ismod_any _ _ _ _ _ k)
  obtain ⟨v, hv⟩ : ∃ v, v = codV (nv ns) (iv m zs) := ⟨_, rfl⟩
  rw [← hv]
  have hE := Try.call26
  clear h h'
  go_enter Try.func25, Try.ntmps25
  go_wp2_with fail
  refine Calls.mono HM.out ?_
  rintro e w1 ⟨rfl, hb1⟩
  obtain ⟨⟨c0, c1⟩, -, -⟩ := held2 hb1
  have hB1 := hV.trans (hb1.mono hV.size)
  replace k := k.below hb1
  replace k' := k'.below hb1
  clear HM hV hb1
  cases hm : modB ns with
  | false =>
    have HF : Hid (Told (codF ns m zs) v [] 1) := Told.bad (by unfold codF; rw [hm]; rfl)
    clear k k' c0 c1 hv hE
    go_wp2
    go_ret2
    exact ⟨none, 0, 0, [], 1, rfl, Nums.nil _, HF.out, hB1⟩
  | true =>
    obtain ⟨rn, n8, n3⟩ := (modB_iff ns).1 hm
    have hn := IsN.self k.digs rn
    have HMo : Hid (∀ wx, Below w1.heap.size w1 wx → Calls Try.prog 55 #[.slice a la ca] wx fun e w' => ∃ ha hl hc, e = .returned (.agg #[.slice a la ca, .slice ha hl hc]) ∧ Hid (∃ hs, Nums w' ha hl hc hs ∧ IsN hs (hlf (nv ns)) ∧ Below w1.heap.size w1 w') ∧ w'.cell? ⟨w.heap.size, 0, none⟩ = some (.bool m) ∧ w'.cell? ⟨w.heap.size, 1, none⟩ = some (.slice b lb cb)) := by
      intro wx hbx
      refine (modof_any _ _ _ _ _ wx (k.below hbx) hn (by omega)).mono ?_
      rintro e w' ⟨ha, hl, hc, hs, rfl, hN, hI, hb⟩
      have hb' := hbx.trans (hb.mono hbx.size)
      exact ⟨ha, hl, hc, rfl, ⟨hs, hN, hI, hb'⟩, bkeep hb' c0 rfl, bkeep hb' c1 rfl⟩
    have HEn : Hid (∀ wx ha hl hc, (∃ hs, Nums wx ha hl hc hs ∧ IsN hs (hlf (nv ns)) ∧ Below w1.heap.size w1 wx) → Calls Try.prog 26 #[.agg #[.slice a la ca, .slice ha hl hc], .agg #[.bool m, .slice b lb cb]] wx fun e w' => ∃ ra rl rc err, e = .returned (.tuple #[.slice ra rl rc, .int .i64 err]) ∧ Hid (∃ rs, Nums w' ra rl rc rs ∧ Told (codF ns m zs) v rs err ∧ Below w.heap.size w w')) := by
      rintro wx ha hl hc ⟨hs, hN, hI, hbx⟩
      refine (mencode_any m _ _ _ _ _ _ _ _ _ ns hs zs wx (k.below hbx) hN (k'.below hbx) hm hI).mono ?_
      rintro e w' ⟨ra, rl, rc, rs, err, rfl, hR, hT, hb⟩
      rw [← hv] at hT
      have hb' := hbx.trans (hb.mono hbx.size)
      exact ⟨ra, rl, rc, err, rfl, ⟨rs, hR, hT, hB1.trans (hb'.mono hB1.size)⟩⟩
    clear k k' hn hv hB1
    go_wp2_with fail
    go_region_with (first
      | (go_at_call 55; refine (HMo.out _ ?_).mono ?_; (exact ⟨rfl, rfl, rfl, Nat.le_refl _, fun _ _ => rfl⟩); rintro e w3 ⟨ha, hl, hc, rfl, hH, k0, k1⟩)
      | (go_at_call 26; refine (HEn.out _ _ _ _ ?_).mono ?_; (obtain ⟨hs, g1, g2, g3⟩ := hH.out; exact ⟨hs, g1.alike (fun _ => rfl), g2, g3.os, g3.tape, g3.output, g3.size, g3.block⟩); rintro e w4 ⟨ra, rl, rc, err, rfl, hR⟩))
    all_goals
      clear HMo HEn hH
      go_wp2_with fail
      go_ret2
      obtain ⟨rs, g1, g2, g3⟩ := hR.out
      exact ⟨ra, rl, rc, rs, err, rfl, g1.alike (fun _ => rfl), g2, g3.os, g3.tape, g3.output, g3.size, g3.block⟩

set_option maxRecDepth 20000 in
set_option maxHeartbeats 800000 in
theorem cod_ok7 : CodOk := by
  intro m a b la ca lb cb ns zs w h h'
  have HA := (show Hid _ from askE_any m _ _ _ _ _ _ _ _ w h h')
  have hV := (Below.refl w.heap.size w).alloc (Nat.le_refl _) (.cells #[.bool m, .slice b lb cb] 25)
  obtain ⟨v, hv⟩ : ∃ v, v = codV (nv ns) (iv m zs) := ⟨_, rfl⟩
  have HB : Hid (∀ wx, Below w.heap.size w wx → Calls Try.prog 25 #[.slice a la ca, .func (.func 26) #[] #[], .agg #[.bool m, .slice b lb cb]] wx fun e w' => TripT (codF ns m zs) v wx e w') := fun wx hb => by
    rw [hv]
    exact askE_any m _ _ _ _ _ _ _ _ wx (h.below hb) (h'.below hb)
  rw [← hv]
  clear h h' HA hv
  go_enter Try.func11, Try.ntmps11
  go_wp2_with fail
  refine (HB.out _ hV).mono ?_
  rintro e w2 ⟨ra, rl, rc, rs, err, rfl, hR, hT, hb2⟩
  have HT : Hid (Told (codF ns m zs) v rs err) := hT
  have hB2 := hV.trans (hb2.mono hV.size)
  clear HB hT hV hb2
  go_wp2
  go_ret2
  exact ⟨ra, rl, rc, rs, err, rfl, hR, HT.out, hB2⟩

set_option maxRecDepth 20000 in
set_option maxHeartbeats 3200000 in
theorem askD_any (a b : Option Addr) (la ca lb cb : Nat) (ns vs : List Int) (w : World) (h : Nums w a la ca ns) (h' : Nums w b lb cb vs) :
    Calls Try.prog 32 #[.slice a la ca, .func (.func 33) #[] #[], .slice b lb cb] w fun e w' => TripW (dcF ns vs) (dcV (nv ns) (nv vs)) w e w' := by
  have hV := (Below.refl w.heap.size w).alloc (Nat.le_refl _) (.cells #[.bool false, .slice none 0 0] 25)
  have k := h.below hV
  have k' := h'.below hV
  have HM := (show Hid _ from ismod_any _ _ _ _ _ k)
  obtain ⟨v, hv⟩ : ∃ v, v = dcV (nv ns) (nv vs) := ⟨_, rfl⟩
  rw [← hv]
  have hE := Try.call33
  clear h h'
  go_enter Try.func32, Try.ntmps32
  go_wp2_with fail
  refine Calls.mono HM.out ?_
  rintro e w1 ⟨rfl, hb1⟩
  obtain ⟨⟨c0, c1⟩, f0, f1⟩ := held2 hb1
  have hB1 := hV.trans (hb1.mono hV.size)
  replace k := k.below hb1
  replace k' := k'.below hb1
  clear HM hV hb1
  cases hm : modB ns with
  | false =>
    have HF : Hid (ToldW (dcF ns vs) v false [] 1) := ToldW.bad (by unfold dcF; rw [hm]; rfl)
    have hA := hB1.alloc hB1.size (.cells #[.bool false, .slice none 0 0] 25)
    have hbA := (Below.refl w1.heap.size w1).alloc (Nat.le_refl _) (.cells #[.bool false, .slice none 0 0] 25)
    have e0 := bkeep hbA c0 rfl
    have e1 := bkeep hbA c1 rfl
    have hlt := World.block_lt_of_cell? _ _ c0
    have e2 := ((bcell hbA).2 _ 0 hlt).trans f0
    have e3 := ((bcell hbA).2 _ 1 hlt).trans f1
    have hBB := (hA.setCell (p := ⟨w.heap.size, 0, none⟩) (Nat.le_refl _) (.bool false)).setCell (p := ⟨w.heap.size, 1, none⟩) (Nat.le_refl _) (.slice none 0 0)
    clear k k' hv hE hB1 hA hbA hlt
    go_wp2_with fail
    exact bodyPost_ret (v := .tuple #[.agg #[.bool false, .slice none 0 0], .int .i64 1]) (by simp [results, Try.results32, go_sem, e0, e1]) rfl ⟨false, none, 0, 0, [], 1, rfl, Nums.nil _, HF.out, hBB⟩
  | true =>
    obtain ⟨rn, n8, n3⟩ := (modB_iff ns).1 hm
    have hn := IsN.self k.digs rn
    have hlt := World.block_lt_of_cell? _ _ c0
    have HMo : Hid (∀ wx, Below w1.heap.size w1 wx → Calls Try.prog 55 #[.slice a la ca] wx fun e w' => ∃ ha hl hc, e = .returned (.agg #[.slice a la ca, .slice ha hl hc]) ∧ Hid (∃ hs, Nums w' ha hl hc hs ∧ IsN hs (hlf (nv ns)) ∧ Below w1.heap.size w1 w')) := by
      intro wx hbx
      refine (modof_any _ _ _ _ _ wx (k.below hbx) hn (by omega)).mono ?_
      rintro e w' ⟨ha, hl, hc, hs, rfl, hN, hI, hb⟩
      have hb' := hbx.trans (hb.mono hbx.size)
      exact ⟨ha, hl, hc, rfl, ⟨hs, hN, hI, hb'⟩⟩
    have HDe : Hid (∀ wx ha hl hc, (∃ hs, Nums wx ha hl hc hs ∧ IsN hs (hlf (nv ns)) ∧ Below w1.heap.size w1 wx) → Calls Try.prog 33 #[.agg #[.slice a la ca, .slice ha hl hc], .slice b lb cb] wx fun e w' => ∃ n ra rl rc err, e = .returned (.tuple #[.agg #[.bool n, .slice ra rl rc], .int .i64 err]) ∧ Hid (∃ rs, Nums w' ra rl rc rs ∧ ToldW (dcF ns vs) v n rs err ∧ Below w.heap.size w w') ∧ (w'.cell? ⟨w.heap.size, 0, none⟩ = some (.bool false) ∧ w'.cell? ⟨w.heap.size, 1, none⟩ = some (.slice none 0 0)) ∧ w'.frozen? ⟨w.heap.size, 0, none⟩ = false ∧ w'.frozen? ⟨w.heap.size, 1, none⟩ = false) := by
      rintro wx ha hl hc ⟨hs, hN, hI, hbx⟩
      refine (mdecode_any _ _ _ _ _ _ _ _ _ ns hs vs wx (k.below hbx) hN (k'.below hbx) hm hI).mono ?_
      rintro e w' ⟨n, ra, rl, rc, rs, err, rfl, hR, hT, hb⟩
      rw [← hv] at hT
      have hb' := hbx.trans (hb.mono hbx.size)
      exact ⟨n, ra, rl, rc, err, rfl, ⟨rs, hR, hT, hB1.trans (hb'.mono hB1.size)⟩, ⟨bkeep hb' c0 rfl, bkeep hb' c1 rfl⟩, ((bcell hb').2 _ _ hlt).trans f0, ((bcell hb').2 _ _ hlt).trans f1⟩
    clear k k' hn hv hB1 hlt
    go_wp2_with fail
    refine (HMo.out _ (Below.refl _ _)).mono ?_
    rintro e w3 ⟨ha, hl, hc, rfl, hH⟩
    clear HMo
    go_wp2_with fail
    refine (HDe.out _ _ _ _ hH.out).mono ?_
    rintro e w4 ⟨n, ra, rl, rc, err, rfl, hR, ⟨d0, d1⟩, e0, e1⟩
    clear HDe hH c0 c1 f0 f1
    go_wp2_with fail
    obtain ⟨rs, g1, g2, g3⟩ := hR.out
    have g4 := g1.put2 d0 d1 (.bool n) (.slice ra rl rc)
    have g5 := (g3.setCell (p := ⟨w.heap.size, 0, none⟩) (Nat.le_refl _) (.bool n)).setCell (p := ⟨w.heap.size, 1, none⟩) (Nat.le_refl _) (.slice ra rl rc)
    exact bodyPost_ret (v := .tuple #[.agg #[.bool n, .slice ra rl rc], .int .i64 err]) (by simp [results, Try.results32, go_sem, d0, d1]) rfl ⟨n, ra, rl, rc, rs, err, rfl, g4, g2, g5⟩

set_option maxRecDepth 20000 in
set_option maxHeartbeats 800000 in
theorem dc_ok7 : DcOk := by
  intro a b la ca lb cb ns vs w h h'
  have hV := (Below.refl w.heap.size w).alloc (Nat.le_refl _) (.cells #[.bool false, .slice none 0 0] 25)
  obtain ⟨v, hv⟩ : ∃ v, v = dcV (nv ns) (nv vs) := ⟨_, rfl⟩
  have HB : Hid (∀ wx, Below w.heap.size w wx → Calls Try.prog 32 #[.slice a la ca, .func (.func 33) #[] #[], .slice b lb cb] wx fun e w' => TripW (dcF ns vs) v wx e w') := fun wx hb => by
    rw [hv]
    exact askD_any _ _ _ _ _ _ _ _ wx (h.below hb) (h'.below hb)
  rw [← hv]
  clear h h' hv
  go_enter Try.func14, Try.ntmps14
  go_wp2_with fail
  refine (HB.out _ hV).mono ?_
  rintro e w2 ⟨n, ra, rl, rc, rs, err, rfl, hR, hT, hb2⟩
  have HT : Hid (ToldW (dcF ns vs) v n rs err) := hT
  obtain ⟨⟨d0, d1⟩, e0, e1⟩ := held2 hb2
  have hB2 := hV.trans (hb2.mono hV.size)
  have g4 := hR.put2 d0 d1 (.bool n) (.slice ra rl rc)
  have g5 := (hB2.setCell (p := ⟨w.heap.size, 0, none⟩) (Nat.le_refl _) (.bool n)).setCell (p := ⟨w.heap.size, 1, none⟩) (Nat.le_refl _) (.slice ra rl rc)
  clear HB hT hV hb2 hB2 hR
  go_wp2_with fail
  exact bodyPost_ret (v := .tuple #[.agg #[.bool n, .slice ra rl rc], .int .i64 err]) (by simp [results, Try.results14, go_sem, d0, d1]) rfl ⟨n, ra, rl, rc, rs, err, rfl, g4, HT.out, g5⟩
end Go.Proofs.Ytambpcgdaogojaa

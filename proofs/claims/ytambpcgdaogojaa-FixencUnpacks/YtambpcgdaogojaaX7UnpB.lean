/-
  Contracts of package fixenc's unpack and Unpack.
-/
import Derived.Test.YtambpcgdaogojaaX7Unp
namespace Go.Proofs.Ytambpcgdaogojaa
open Go.RowKit

/-- The cells of three blocks of two cells that were made in a row; the last is not frozen. -/
theorem up_no {ns vs : List Int} {s : Int} (hm : modB ns = true) (hs : shB s = false) : upF ns s vs = some 1 := by
  unfold upF
  rw [hm, hs]
  rfl

set_option maxRecDepth 20000 in
set_option maxHeartbeats 6400000 in
theorem munpack_any (a ha b : Option Addr) (la ca hl hc lb cb : Nat) (ns hs vs : List Int) (s : Int) (w : World) (hN : Nums w a la ca ns) (hH : Nums w ha hl hc hs) (hV' : Nums w b lb cb vs) (hm : modB ns = true) (hI : IsN hs (hlf (nv ns))) :
    Calls Try.prog 44 #[.agg #[.slice a la ca, .slice ha hl hc], .agg #[.int .i64 s, .slice b lb cb]] w fun e w' => PairP7 (upF ns s vs) (upG ns s vs) (upH ns s vs) w e w' := by
  have hV := (((Below.refl w.heap.size w).alloc (Nat.le_refl _) (.cells #[.slice a la ca, .slice ha hl hc] 57)).alloc (by simp) (.cells #[.int .i64 s, .slice b lb cb] 80)).alloc (by simp; omega) (.cells #[.int .i64 0, .int .i64 0] 68)
  have kN := hN.below hV
  have kH := hH.below hV
  have kV := hV'.below hV
  obtain ⟨F, hF⟩ : ∃ F, F = upF ns s vs := ⟨_, rfl⟩
  obtain ⟨GG, hGG⟩ : ∃ GG, GG = upG ns s vs := ⟨_, rfl⟩
  obtain ⟨HH, hHH⟩ : ∃ HH, HH = upH ns s vs := ⟨_, rfl⟩
  rw [← hF, ← hGG, ← hHH]
  have HFe : Hid (F = upF ns s vs ∧ GG = upG ns s vs ∧ HH = upH ns s vs) := ⟨hF, hGG, hHH⟩
  clear hF hGG hHH hN hH hV'
  go_enter Try.func44, Try.ntmps44
  go_wp2_with fail
  refine (isshift_any s _).mono ?_
  rintro e w1 ⟨rfl, rfl⟩
  obtain ⟨⟨c0, c1⟩, ⟨d0, d1⟩, ⟨e0, e1⟩, f0, f1⟩ := held222 (w := w) (x := .slice a la ca) (y := .slice ha hl hc) (x' := .int .i64 s) (y' := .slice b lb cb) (x'' := .int .i64 0) (y'' := .int .i64 0) (t := 57) (t' := 80) (t'' := 68) (Below.refl _ _)
  generalize ((w.alloc (.cells #[.slice a la ca, .slice ha hl hc] 57)).alloc (.cells #[.int .i64 s, .slice b lb cb] 80)).alloc (.cells #[.int .i64 0, .int .i64 0] 68) = V at *
  have hRV : w.heap.size + 1 + 1 < V.heap.size := World.block_lt_of_cell? _ _ e0
  cases hsB : shB s with
  | false =>
    have HF : Hid (Told2 F GG HH 0 0 1) := .inl ⟨1, by rw [HFe.out.1]; exact up_no hm hsB, rfl, rfl, rfl⟩
    have hBB := (hV.setCell (p := ⟨w.heap.size + 1 + 1, 0, none⟩) (by show _ ≤ w.heap.size + 1 + 1; omega) (.int .i64 0)).setCell (p := ⟨w.heap.size + 1 + 1, 1, none⟩) (by show _ ≤ w.heap.size + 1 + 1; omega) (.int .i64 0)
    clear kN kH kV c0 c1 d0 d1 hV hRV hI HFe
    go_wp2_with fail
    exact bodyPost_ret (v := .tuple #[.agg #[.int .i64 0, .int .i64 0], .int .i64 1]) (by simp [results, Try.results44, go_sem, e0, e1]) rfl ⟨0, 0, 1, rfl, HF.out, hBB⟩
  | true =>
    have hs0 : 0 ≤ s ∧ s ≤ 62 := by have := (shB_iff s).1 hsB; omega
    have hnb : (nv ns : Int) < 18446744073709551616 ^ 8 := mod_bd kN.digs hm
    have HD := (show Hid _ from mdecode_any _ _ _ _ _ _ _ _ _ ns hs vs V kN kH kV hm hI)
    obtain ⟨x, hx⟩ : ∃ x, x = dcV (nv ns) (nv vs) := ⟨_, rfl⟩
    rw [← hx] at HD
    have HXe : Hid (x = dcV (nv ns) (nv vs)) := hx
    clear kN kH kV hI hx
    go_wp2_with fail
    refine Calls.mono HD.out ?_
    rintro e v ⟨xn, xa, xl, xc, xs, xe, rfl, hX, hT, hb2⟩
    have hBv := hV.trans (hb2.mono hV.size)
    replace d0 := bkeep hb2 d0 rfl
    replace e0 := bkeep hb2 e0 rfl
    replace e1 := bkeep hb2 e1 rfl
    replace f0 := ((bcell hb2).2 _ 0 hRV).trans f0
    replace f1 := ((bcell hb2).2 _ 1 hRV).trans f1
    have hRv : w.heap.size + 1 + 1 < v.heap.size := Nat.lt_of_lt_of_le hRV hb2.size
    clear HD hV hb2 hRV c0 c1 d1
    have hA := hBv.alloc hBv.size (.cells #[.bool xn, .slice xa xl xc] 25)
    have hbA := (Below.refl v.heap.size v).alloc (Nat.le_refl _) (.cells #[.bool xn, .slice xa xl xc] 25)
    have x0 : (v.alloc (.cells #[.bool xn, .slice xa xl xc] 25)).cell? ⟨v.heap.size, 0, none⟩ = some (.bool xn) := by simp
    have x1 : (v.alloc (.cells #[.bool xn, .slice xa xl xc] 25)).cell? ⟨v.heap.size, 1, none⟩ = some (.slice xa xl xc) := by simp
    replace d0 := bkeep hbA d0 rfl
    replace e0 := bkeep hbA e0 rfl
    replace e1 := bkeep hbA e1 rfl
    replace f0 := ((bcell hbA).2 _ 0 hRv).trans f0
    replace f1 := ((bcell hbA).2 _ 1 hRv).trans f1
    replace hX := hX.below hbA
    have hRA : w.heap.size + 1 + 1 < (v.alloc (.cells #[.bool xn, .slice xa xl xc] 25)).heap.size := Nat.lt_of_lt_of_le hRv hbA.size
    clear hBv hbA hRv
    rcases hT with ⟨e, hf, rfl, rfl, rfl⟩ | ⟨hf, hxW, rfl⟩
    · have hne : (xe != 0) = true := by have := dcF_ne hf; simpa using this
      have HF : Hid (Told2 F GG HH 0 0 xe) := .inl ⟨xe, by rw [HFe.out.1]; exact up_bad hm hsB hf, rfl, rfl, rfl⟩
      have hBB := (hA.setCell (p := ⟨w.heap.size + 1 + 1, 0, none⟩) (by show _ ≤ w.heap.size + 1 + 1; omega) (.int .i64 0)).setCell (p := ⟨w.heap.size + 1 + 1, 1, none⟩) (by show _ ≤ w.heap.size + 1 + 1; omega) (.int .i64 0)
      clear hf hX HFe HXe hnb hA hRA d0 x0 x1
      go_wp2_with fail
      exact bodyPost_ret (v := .tuple #[.agg #[.int .i64 0, .int .i64 0], .int .i64 xe]) (by simp [results, Try.results44, go_sem, e0, e1]) rfl ⟨0, 0, xe, rfl, HF.out, hBB⟩
    · have hup := up_good hm hsB hf
      have hvl : nv vs < nv ns := by
        unfold dcF at hf
        rw [hm] at hf
        by_cases c : nv vs < nv ns
        · exact c
        · rw [decide_eq_false c, Bool.and_false] at hf; cases hf
      have hxb : (x.natAbs : Int) < 18446744073709551616 ^ 63 := by
        have h1 : (18446744073709551616 : Int) ^ 8 < 18446744073709551616 ^ 63 := by decide
        rw [HXe.out]
        unfold dcV
        split <;> omega
      have HP := (show Hid _ from fparted_any xn xa xl xc xs x s _ hs0 hX hxW hxb)
      have hG : upG ns s vs = x / 2 ^ s.toNat := by unfold upG; rw [HXe.out]
      have hHh : upH ns s vs = x % 2 ^ s.toNat := by unfold upH; rw [HXe.out]
      rw [hG] at hup
      rw [← hup, ← hG, ← hHh, ← HFe.out.1, ← HFe.out.2.1, ← HFe.out.2.2] at HP
      clear hup hvl hxb hG hHh hf hX hxW HFe HXe hnb hs0
      go_wp2_with fail
      refine Calls.mono HP.out ?_
      rintro e w5 ⟨y, z, err, rfl, hT, hb5⟩
      have HT : Hid (Told2 F GG HH y z err) := hT
      have hB5 := hA.trans (hb5.mono hA.size)
      replace e0 := bkeep hb5 e0 rfl
      replace e1 := bkeep hb5 e1 rfl
      replace f0 := ((bcell hb5).2 _ 0 hRA).trans f0
      replace f1 := ((bcell hb5).2 _ 1 hRA).trans f1
      have hBB := (hB5.setCell (p := ⟨w.heap.size + 1 + 1, 0, none⟩) (by show _ ≤ w.heap.size + 1 + 1; omega) (.int .i64 y)).setCell (p := ⟨w.heap.size + 1 + 1, 1, none⟩) (by show _ ≤ w.heap.size + 1 + 1; omega) (.int .i64 z)
      clear HP hT hA hb5 hB5 hRA d0 x0 x1
      go_wp2_with fail
      exact bodyPost_ret (v := .tuple #[.agg #[.int .i64 y, .int .i64 z], .int .i64 err]) (by simp [results, Try.results44, go_sem, e0, e1]) rfl ⟨y, z, err, rfl, HT.out, hBB⟩

set_option maxRecDepth 20000 in
set_option maxHeartbeats 6400000 in
theorem askU_any (a b : Option Addr) (la ca lb cb : Nat) (ns vs : List Int) (s : Int) (w : World) (hN : Nums w a la ca ns) (hV' : Nums w b lb cb vs) :
    Calls Try.prog 43 #[.slice a la ca, .func (.func 44) #[] #[], .agg #[.int .i64 s, .slice b lb cb]] w fun e w' => PairP7 (upF ns s vs) (upG ns s vs) (upH ns s vs) w e w' := by
  have hV := ((Below.refl w.heap.size w).alloc (Nat.le_refl _) (.cells #[.int .i64 s, .slice b lb cb] 80)).alloc (by simp) (.cells #[.int .i64 0, .int .i64 0] 68)
  have k := hN.below hV
  have k' := hV'.below hV
  have HM := (show Hid _ from ismod_any _ _ _ _ _ k)
  obtain ⟨F, hF⟩ : ∃ F, F = upF ns s vs := ⟨_, rfl⟩
  obtain ⟨GG, hGG⟩ : ∃ GG, GG = upG ns s vs := ⟨_, rfl⟩
  obtain ⟨HH, hHH⟩ : ∃ HH, HH = upH ns s vs := ⟨_, rfl⟩
  rw [← hF, ← hGG, ← hHH]
  have HFe : Hid (F = upF ns s vs ∧ GG = upG ns s vs ∧ HH = upH ns s vs) := ⟨hF, hGG, hHH⟩
  have hE := Try.call44
  clear hF hGG hHH hN hV'
  go_enter Try.func43, Try.ntmps43
  go_wp2_with fail
  refine Calls.mono HM.out ?_
  rintro e w1 ⟨rfl, hb1⟩
  obtain ⟨⟨c0, c1⟩, ⟨d0, d1⟩, -, f0, f1⟩ := held22 hb1
  have hB1 := hV.trans (hb1.mono hV.size)
  replace k := k.below hb1
  replace k' := k'.below hb1
  have hR1 : w.heap.size + 1 < w1.heap.size := World.block_lt_of_cell? _ _ d0
  clear HM hV hb1
  cases hm : modB ns with
  | false =>
    have HF : Hid (Told2 F GG HH 0 0 1) := .inl ⟨1, by rw [HFe.out.1]; unfold upF; rw [hm]; rfl, rfl, rfl, rfl⟩
    have hA := hB1.alloc hB1.size (.cells #[.int .i64 0, .int .i64 0] 68)
    have hbA := (Below.refl w1.heap.size w1).alloc (Nat.le_refl _) (.cells #[.int .i64 0, .int .i64 0] 68)
    have e0 := bkeep hbA d0 rfl
    have e1 := bkeep hbA d1 rfl
    have e2 := ((bcell hbA).2 _ 0 hR1).trans f0
    have e3 := ((bcell hbA).2 _ 1 hR1).trans f1
    have hBB := (hA.setCell (p := ⟨w.heap.size + 1, 0, none⟩) (Nat.le_succ _) (.int .i64 0)).setCell (p := ⟨w.heap.size + 1, 1, none⟩) (Nat.le_succ _) (.int .i64 0)
    clear k k' hE hB1 hA hbA hR1 HFe c0 c1
    go_wp2_with fail
    exact bodyPost_ret (v := .tuple #[.agg #[.int .i64 0, .int .i64 0], .int .i64 1]) (by simp [results, Try.results43, go_sem, e0, e1]) rfl ⟨0, 0, 1, rfl, HF.out, hBB⟩
  | true =>
    obtain ⟨rn, n8, n3⟩ := (modB_iff ns).1 hm
    have hn := IsN.self k.digs rn
    have HMo : Hid (∀ wx, Below w1.heap.size w1 wx → Calls Try.prog 55 #[.slice a la ca] wx fun e w' => ∃ ha hl hc, e = .returned (.agg #[.slice a la ca, .slice ha hl hc]) ∧ Hid (∃ hs, Nums w' ha hl hc hs ∧ IsN hs (hlf (nv ns)) ∧ Below w1.heap.size w1 w') ∧ w'.cell? ⟨w.heap.size, 0, none⟩ = some (.int .i64 s) ∧ w'.cell? ⟨w.heap.size, 1, none⟩ = some (.slice b lb cb)) := by
      intro wx hbx
      refine (modof_any _ _ _ _ _ wx (k.below hbx) hn (by omega)).mono ?_
      rintro e w' ⟨ha, hl, hc, hs, rfl, hN, hI, hb⟩
      have hb' := hbx.trans (hb.mono hbx.size)
      exact ⟨ha, hl, hc, rfl, ⟨hs, hN, hI, hb'⟩, bkeep hb' c0 rfl, bkeep hb' c1 rfl⟩
    have HUn : Hid (∀ wx ha hl hc, (∃ hs, Nums wx ha hl hc hs ∧ IsN hs (hlf (nv ns)) ∧ Below w1.heap.size w1 wx) → Calls Try.prog 44 #[.agg #[.slice a la ca, .slice ha hl hc], .agg #[.int .i64 s, .slice b lb cb]] wx fun e w' => ∃ x y err, e = .returned (.tuple #[.agg #[.int .i64 x, .int .i64 y], .int .i64 err]) ∧ Hid (Told2 F GG HH x y err ∧ Below w.heap.size w w') ∧ (w'.cell? ⟨w.heap.size + 1, 0, none⟩ = some (.int .i64 0) ∧ w'.cell? ⟨w.heap.size + 1, 1, none⟩ = some (.int .i64 0)) ∧ w'.frozen? ⟨w.heap.size + 1, 0, none⟩ = false ∧ w'.frozen? ⟨w.heap.size + 1, 1, none⟩ = false) := by
      rintro wx ha hl hc ⟨hs, hN, hI, hbx⟩
      refine (munpack_any _ _ _ _ _ _ _ _ _ ns hs vs s wx (k.below hbx) hN (k'.below hbx) hm hI).mono ?_
      rintro e w' ⟨x, y, err, rfl, hT, hb⟩
      rw [← HFe.out.1, ← HFe.out.2.1, ← HFe.out.2.2] at hT
      have hb' := hbx.trans (hb.mono hbx.size)
      exact ⟨x, y, err, rfl, ⟨hT, hB1.trans (hb'.mono hB1.size)⟩, ⟨bkeep hb' d0 rfl, bkeep hb' d1 rfl⟩, ((bcell hb').2 _ _ hR1).trans f0, ((bcell hb').2 _ _ hR1).trans f1⟩
    clear k k' hn hB1 hR1 HFe
    go_wp2_with fail
    go_region_with (first
      | (go_at_call 55; refine (HMo.out _ ?_).mono ?_; (exact ⟨rfl, rfl, rfl, Nat.le_refl _, fun _ _ => rfl⟩); rintro e w3 ⟨ha, hl, hc, rfl, hH, k0, k1⟩)
      | (go_at_call 44; refine (HUn.out _ _ _ _ ?_).mono ?_; (obtain ⟨hs, g1, g2, g3⟩ := hH.out; exact ⟨hs, g1.alike (fun _ => rfl), g2, g3.os, g3.tape, g3.output, g3.size, g3.block⟩); rintro e w4 ⟨x, y, err, rfl, hR, ⟨q0, q1⟩, q2, q3⟩))
    all_goals
      clear HMo HUn hH c0 c1 d0 d1 f0 f1
      go_wp2_with fail
      obtain ⟨g2, g3⟩ := hR.out
      have g5 := (g3.setCell (p := ⟨w.heap.size + 1, 0, none⟩) (Nat.le_succ _) (.int .i64 x)).setCell (p := ⟨w.heap.size + 1, 1, none⟩) (Nat.le_succ _) (.int .i64 y)
      exact bodyPost_ret (v := .tuple #[.agg #[.int .i64 x, .int .i64 y], .int .i64 err]) (by simp [results, Try.results43, go_sem, q0, q1]) rfl ⟨x, y, err, rfl, g2, g5.os, g5.tape, g5.output, g5.size, g5.block⟩

set_option maxRecDepth 20000 in
set_option maxHeartbeats 1600000 in
theorem up_ok7 : UpOk := by
  intro a b la ca lb cb ns vs s w hN hV' _
  have HB := (show Hid _ from askU_any _ _ _ _ _ _ _ _ s w hN hV')
  obtain ⟨F, hF⟩ : ∃ F, F = upF ns s vs := ⟨_, rfl⟩
  obtain ⟨GG, hGG⟩ : ∃ GG, GG = upG ns s vs := ⟨_, rfl⟩
  obtain ⟨HH, hHH⟩ : ∃ HH, HH = upH ns s vs := ⟨_, rfl⟩
  rw [← hF, ← hGG, ← hHH] at HB
  rw [← hF, ← hGG, ← hHH]
  clear hN hV' hF hGG hHH
  go_enter Try.func19, Try.ntmps19
  go_wp2_with fail
  refine Calls.mono HB.out ?_
  rintro e w2 ⟨x, y, err, rfl, hT, hb2⟩
  have HT : Hid (Told2 F GG HH x y err) := hT
  have hA := hb2.alloc hb2.size (.cells #[.int .i64 x, .int .i64 y] 68)
  clear HB hT hb2
  go_wp2_with fail
  go_region_with (fail)
  all_goals
    go_wp2_with fail
    go_ret3
    exact ⟨x, y, err, rfl, HT.out, hA.os, hA.tape, hA.output, hA.size, hA.block⟩
end Go.Proofs.Ytambpcgdaogojaa

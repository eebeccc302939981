/-
  Contracts of package fixenc's pack and Pack.
-/
import Derived.Test.YtambpcgdaogojabGreatX7Pack
import Derived.Test.YtambpcgdaogojabGreatX7Ask
import Derived.BigQuiet
namespace Go.Proofs.YtambpcgdaogojabGreat
open Go.RowKit

/-- The cells of a block of two cells and of one of three that were made in a row. -/
theorem held23 {w w2 : World} {x y x' y' z' : Value} {t t' : TypeId} (hb : Below ((w.alloc (.cells #[x, y] t)).alloc (.cells #[x', y', z'] t')).heap.size ((w.alloc (.cells #[x, y] t)).alloc (.cells #[x', y', z'] t')) w2) :
    (w2.cell? ⟨w.heap.size, 0, none⟩ = some x ∧ w2.cell? ⟨w.heap.size, 1, none⟩ = some y) ∧ (w2.cell? ⟨w.heap.size + 1, 0, none⟩ = some x' ∧ w2.cell? ⟨w.heap.size + 1, 1, none⟩ = some y' ∧ w2.cell? ⟨w.heap.size + 1, 2, none⟩ = some z') := by
  obtain ⟨hc, hf⟩ := bcell hb
  refine ⟨⟨?_, ?_⟩, ?_, ?_, ?_⟩
  · rw [hc w.heap.size 0 (by simp; omega)]; simp
  · rw [hc w.heap.size 1 (by simp; omega)]; simp
  · rw [hc (w.heap.size + 1) 0 (by simp)]; simp
  · rw [hc (w.heap.size + 1) 1 (by simp)]; simp
  · rw [hc (w.heap.size + 1) 2 (by simp)]; simp

set_option maxRecDepth 20000 in
set_option maxHeartbeats 6400000 in
theorem mpack_any (a ha : Option Addr) (la ca hl hc : Nat) (ns hs : List Int) (s g h : Int) (w : World) (hN : Nums w a la ca ns) (hH : Nums w ha hl hc hs) (hm : modB ns = true) (hI : IsN hs (hlf (nv ns)))
    (hg : -9223372036854775808 ≤ g ∧ g < 9223372036854775808) (hh : -9223372036854775808 ≤ h ∧ h < 9223372036854775808) :
    Calls Tryz.prog 20 #[.agg #[.slice a la ca, .slice ha hl hc], .agg #[.int .i64 s, .int .i64 g, .int .i64 h]] w fun e w' => TripT (pkF ns s g h) (codV (nv ns) (pkX s g h)) w e w' := by
  obtain ⟨X, hX⟩ : ∃ X, X = pkX s g h := ⟨_, rfl⟩
  rw [← hX]
  have HX : Hid (X = pkX s g h) := hX
  clear hX
  have hV := ((Below.refl w.heap.size w).alloc (Nat.le_refl _) (.cells #[.slice a la ca, .slice ha hl hc] 60)).alloc (by simp) (.cells #[.int .i64 s, .int .i64 g, .int .i64 h] 65)
  have KN : Hid (∀ wx, Below w.heap.size w wx → Nums wx a la ca ns ∧ Nums wx ha hl hc hs) := fun wx hb => ⟨hN.below hb, hH.below hb⟩
  clear hN hH
  go_enter Tryz.func20, Tryz.ntmps20
  go_wp2_with fail
  refine (isshift_any s _).mono ?_
  rintro e w1 ⟨rfl, rfl⟩
  obtain ⟨⟨c0, c1⟩, d0, d1, d2⟩ := held23 (w := w) (x := .slice a la ca) (y := .slice ha hl hc) (x' := .int .i64 s) (y' := .int .i64 g) (z' := .int .i64 h) (t := 60) (t' := 65) (Below.refl _ _)
  generalize (w.alloc (.cells #[.slice a la ca, .slice ha hl hc] 60)).alloc (.cells #[.int .i64 s, .int .i64 g, .int .i64 h] 65) = V at *
  cases hsB : shB s with
  | false =>
    have HF : Hid (Told (pkF ns s g h) (codV (nv ns) X) [] 1) := Told.bad (by unfold pkF; rw [hm, hsB]; rfl)
    clear c0 c1 d0 d1 d2 KN hI hg hh
    go_wp2
    go_ret2
    exact ⟨none, 0, 0, [], 1, rfl, Nums.nil _, HF.out, hV⟩
  | true =>
    have hs0 : 0 ≤ s ∧ s ≤ 62 := by have := (shB_iff s).1 hsB; omega
    obtain ⟨P, hP⟩ : ∃ P : Int, P = 2 ^ s.toNat := ⟨_, rfl⟩
    have HP : Hid (P = 2 ^ s.toNat) := hP
    have HSt : Hid (∀ wx, Calls Tryz.prog 46 #[.int .i64 s] wx fun e w' => e = .returned (.int .i64 P) ∧ wx = w') := fun wx => by
      rw [hP]
      exact (fstep_any s wx hs0).mono (fun e w' h => ⟨h.1, h.2.symm⟩)
    clear hP
    by_cases h0 : h < 0
    · have HF : Hid (Told (pkF ns s g h) (codV (nv ns) X) [] 12) := Told.bad (by unfold pkF; rw [hm, hsB, decide_eq_false (show ¬ 0 ≤ h by omega)]; rfl)
      clear KN hI hg hh hs0 HP
      go_wp2_with fail
      clear HSt
      go_quiet (fail)
      go_wp2
      go_ret2
      exact ⟨none, 0, 0, [], 12, rfl, Nums.nil _, HF.out, hV.os, hV.tape, hV.output, hV.size, hV.block⟩
    · have q0 : decide (h < 0) = false := decide_eq_false h0
      by_cases hlt : h < P
      · have q1 : decide (P ≤ h) = false := decide_eq_false (by omega)
        have HJo : Hid (∀ wx, Below V.heap.size V wx → Calls Tryz.prog 48 #[.agg #[.int .i64 s, .int .i64 g, .int .i64 h]] wx fun e w' => ∃ n xa xl xc, e = .returned (.agg #[.bool n, .slice xa xl xc]) ∧ Hid (WAt w' n xa xl xc X ∧ Below V.heap.size V w') ∧ w'.cell? ⟨w.heap.size, 0, none⟩ = some (.slice a la ca) ∧ w'.cell? ⟨w.heap.size, 1, none⟩ = some (.slice ha hl hc)) := by
          intro wx hbx
          refine (joined_any s g h wx hs0 hg hh).mono ?_
          rintro e w' ⟨n, xa, xl, xc, xs, rfl, hn, hW, hb⟩
          rw [← HX.out] at hW
          have hb' := hbx.trans (hb.mono hbx.size)
          exact ⟨n, xa, xl, xc, rfl, ⟨⟨xs, hn, hW⟩, hb'⟩, bkeep hb' c0 rfl, bkeep hb' c1 rfl⟩
        have HEn : Hid (∀ wx n xa xl xc, WAt wx n xa xl xc X → Below V.heap.size V wx → Calls Tryz.prog 47 #[.agg #[.slice a la ca, .slice ha hl hc], .agg #[.bool n, .slice xa xl xc]] wx fun e w' => ∃ ra rl rc err, e = .returned (.tuple #[.slice ra rl rc, .int .i64 err]) ∧ Hid (∃ rs, Nums w' ra rl rc rs ∧ Told (pkF ns s g h) (codV (nv ns) X) rs err ∧ Below w.heap.size w w')) := by
          rintro wx n xa xl xc ⟨xs, hx, hW⟩ hbx
          have hbw := hV.trans (hbx.mono hV.size)
          obtain ⟨k1, k2⟩ := KN.out wx hbw
          refine (mencode_any n _ _ _ _ _ _ _ _ _ ns hs xs wx k1 k2 hx hm hI).mono ?_
          rintro e w' ⟨ra, rl, rc, rs, err, rfl, hR, hT, hb⟩
          rw [cod_pk hm hsB (Int.not_lt.1 h0) (by rw [← HP.out]; exact hlt) (by rw [← HX.out]; exact hW), hW.2.2] at hT
          exact ⟨ra, rl, rc, err, rfl, ⟨rs, hR, hT, hbw.trans (hb.mono hbw.size)⟩⟩
        have HRB : Hid (Below V.heap.size V V) := Below.refl _ _
        clear KN hI hg hh hs0 HP hV
        go_wp2_with fail
        go_cut [22] (fun v wx => v = .bool false ∧ (wx.cell? ⟨w.heap.size, 0, none⟩ = some (.slice a la ca) ∧ wx.cell? ⟨w.heap.size, 1, none⟩ = some (.slice ha hl hc)) ∧ (wx.cell? ⟨w.heap.size + 1, 0, none⟩ = some (.int .i64 s) ∧ wx.cell? ⟨w.heap.size + 1, 1, none⟩ = some (.int .i64 g) ∧ wx.cell? ⟨w.heap.size + 1, 2, none⟩ = some (.int .i64 h)) ∧ Below V.heap.size V wx)
        case first =>
          clear HJo HEn
          go_region_held3 (fun w' => w'.cell? ⟨w.heap.size + 1, 0, none⟩ = some (.int .i64 s) ∧ w'.cell? ⟨w.heap.size + 1, 2, none⟩ = some (.int .i64 h)) (first | go_keep | exact ⟨d0, d2⟩) (first | (go_at_call 46; refine (HSt.out _).mono ?_; rintro e w4 ⟨rfl, rfl⟩))
          all_goals
            clear HSt
            go_wp2_with fail
            go_meet
            case rel => exact ⟨by first | rfl | simp [q1], ⟨c0, c1⟩, ⟨d0, d1, d2⟩, bdrawD HRB.out⟩
        case rest =>
          obtain ⟨rfl, ⟨c0', c1'⟩, ⟨d0', d1', d2'⟩, hbc⟩ := hcut
          clear c0 c1 d0 d1 d2 HSt HRB q0 q1
          go_wp2_with fail
          go_region_with
            (first
            | (go_at_call 48; refine (HJo.out _ ?_).mono ?_; (exact ⟨hbc.os, hbc.tape, hbc.output, hbc.size, hbc.block⟩); rintro e w3 ⟨n, xa, xl, xc, rfl, hJ, k0, k1⟩)
            | (go_at_call 47; refine (HEn.out _ _ _ _ _ ?_ ?_).mono ?_; (exact hJ.out.1); (exact hJ.out.2); rintro e w4 ⟨ra, rl, rc, err, rfl, hR⟩))
          all_goals
            clear HJo HEn hJ
            go_wp2_with fail
            go_ret2
            obtain ⟨rs, g1, g2, g3⟩ := hR.out
            exact ⟨ra, rl, rc, rs, err, rfl, g1, g2, g3⟩
      · have q1 : P ≤ h := by omega
        have HF : Hid (Told (pkF ns s g h) (codV (nv ns) X) [] 12) := Told.bad (by unfold pkF; rw [hm, hsB, ← HP.out, decide_eq_false hlt, Bool.and_false]; rfl)
        clear KN hI hg hh hs0 HP
        go_wp2_with fail
        go_region_held3 (fun w' => w'.cell? ⟨w.heap.size + 1, 0, none⟩ = some (.int .i64 s) ∧ w'.cell? ⟨w.heap.size + 1, 2, none⟩ = some (.int .i64 h)) (first | go_keep | exact ⟨d0, d2⟩) (first | (go_at_call 46; refine (HSt.out _).mono ?_; rintro e w4 ⟨rfl, rfl⟩))
        all_goals
          clear HSt
          go_wp2
          go_ret2
          exact ⟨none, 0, 0, [], 12, rfl, Nums.nil _, HF.out, hV.os, hV.tape, hV.output, hV.size, hV.block⟩

theorem held3 {w w2 : World} {x y z : Value} {t : TypeId} (hb : Below (w.alloc (.cells #[x, y, z] t)).heap.size (w.alloc (.cells #[x, y, z] t)) w2) :
    w2.cell? ⟨w.heap.size, 0, none⟩ = some x ∧ w2.cell? ⟨w.heap.size, 1, none⟩ = some y ∧ w2.cell? ⟨w.heap.size, 2, none⟩ = some z := by
  obtain ⟨hc, hf⟩ := bcell hb
  refine ⟨?_, ?_, ?_⟩
  · rw [hc _ _ (by simp)]; simp
  · rw [hc _ _ (by simp)]; simp
  · rw [hc _ _ (by simp)]; simp

set_option maxRecDepth 20000 in
set_option maxHeartbeats 3200000 in
theorem askP_any (a : Option Addr) (la ca : Nat) (ns : List Int) (s g h : Int) (w : World) (hN : Nums w a la ca ns) (hg : -9223372036854775808 ≤ g ∧ g < 9223372036854775808) (hh : -9223372036854775808 ≤ h ∧ h < 9223372036854775808) :
    Calls Tryz.prog 19 #[.slice a la ca, .func (.func 20) #[] #[], .agg #[.int .i64 s, .int .i64 g, .int .i64 h]] w fun e w' => TripT (pkF ns s g h) (codV (nv ns) (pkX s g h)) w e w' := by
  have hV := (Below.refl w.heap.size w).alloc (Nat.le_refl _) (.cells #[.int .i64 s, .int .i64 g, .int .i64 h] 65)
  have k := hN.below hV
  have HM := (show Hid _ from ismod_any _ _ _ _ _ k)
  obtain ⟨v, hv⟩ : ∃ v, v = codV (nv ns) (pkX s g h) := ⟨_, rfl⟩
  rw [← hv]
  have hE := Tryz.call20
  clear hN
  go_enter Tryz.func19, Tryz.ntmps19
  go_wp2_with fail
  refine Calls.mono HM.out ?_
  rintro e w1 ⟨rfl, hb1⟩
  obtain ⟨c0, c1, c2⟩ := held3 hb1
  have hB1 := hV.trans (hb1.mono hV.size)
  replace k := k.below hb1
  clear HM hV hb1
  cases hm : modB ns with
  | false =>
    have HF : Hid (Told (pkF ns s g h) v [] 1) := Told.bad (by unfold pkF; rw [hm]; rfl)
    clear k c0 c1 c2 hv hE
    go_wp2
    go_ret2
    exact ⟨none, 0, 0, [], 1, rfl, Nums.nil _, HF.out, hB1⟩
  | true =>
    obtain ⟨rn, n8, n3⟩ := (modB_iff ns).1 hm
    have hn := IsN.self k.digs rn
    have HMo : Hid (∀ wx, Below w1.heap.size w1 wx → Calls Tryz.prog 40 #[.slice a la ca] wx fun e w' => ∃ ha hl hc, e = .returned (.agg #[.slice a la ca, .slice ha hl hc]) ∧ Hid (∃ hs, Nums w' ha hl hc hs ∧ IsN hs (hlf (nv ns)) ∧ Below w1.heap.size w1 w') ∧ w'.cell? ⟨w.heap.size, 0, none⟩ = some (.int .i64 s) ∧ w'.cell? ⟨w.heap.size, 1, none⟩ = some (.int .i64 g) ∧ w'.cell? ⟨w.heap.size, 2, none⟩ = some (.int .i64 h)) := by
      intro wx hbx
      refine (modof_any _ _ _ _ _ wx (k.below hbx) hn (by omega)).mono ?_
      rintro e w' ⟨ha, hl, hc, hs, rfl, hN, hI, hb⟩
      have hb' := hbx.trans (hb.mono hbx.size)
      exact ⟨ha, hl, hc, rfl, ⟨hs, hN, hI, hb'⟩, bkeep hb' c0 rfl, bkeep hb' c1 rfl, bkeep hb' c2 rfl⟩
    have HEn : Hid (∀ wx ha hl hc, (∃ hs, Nums wx ha hl hc hs ∧ IsN hs (hlf (nv ns)) ∧ Below w1.heap.size w1 wx) → Calls Tryz.prog 20 #[.agg #[.slice a la ca, .slice ha hl hc], .agg #[.int .i64 s, .int .i64 g, .int .i64 h]] wx fun e w' => ∃ ra rl rc err, e = .returned (.tuple #[.slice ra rl rc, .int .i64 err]) ∧ Hid (∃ rs, Nums w' ra rl rc rs ∧ Told (pkF ns s g h) v rs err ∧ Below w.heap.size w w')) := by
      rintro wx ha hl hc ⟨hs, hN, hI, hbx⟩
      refine (mpack_any _ _ _ _ _ _ ns hs s g h wx (k.below hbx) hN hm hI hg hh).mono ?_
      rintro e w' ⟨ra, rl, rc, rs, err, rfl, hR, hT, hb⟩
      rw [← hv] at hT
      have hb' := hbx.trans (hb.mono hbx.size)
      exact ⟨ra, rl, rc, err, rfl, ⟨rs, hR, hT, hB1.trans (hb'.mono hB1.size)⟩⟩
    clear k hn hv hB1
    go_wp2_with fail
    go_region_with (first
      | (go_at_call 40; refine (HMo.out _ ?_).mono ?_; (exact ⟨rfl, rfl, rfl, Nat.le_refl _, fun _ _ => rfl⟩); rintro e w3 ⟨ha, hl, hc, rfl, hH, k0, k1, k2⟩)
      | (go_at_call 20; refine (HEn.out _ _ _ _ ?_).mono ?_; (obtain ⟨hs, g1, g2, g3⟩ := hH.out; exact ⟨hs, g1.alike (fun _ => rfl), g2, g3.os, g3.tape, g3.output, g3.size, g3.block⟩); rintro e w4 ⟨ra, rl, rc, err, rfl, hR⟩))
    all_goals
      clear HMo HEn hH
      go_wp2_with fail
      go_ret2
      obtain ⟨rs, g1, g2, g3⟩ := hR.out
      exact ⟨ra, rl, rc, rs, err, rfl, g1.alike (fun _ => rfl), g2, g3.os, g3.tape, g3.output, g3.size, g3.block⟩

set_option maxRecDepth 20000 in
set_option maxHeartbeats 800000 in
theorem pk_ok7 : PkOk := by
  intro a la ca ns s g h w hN _ hg hh
  obtain ⟨v, hv⟩ : ∃ v, v = codV (nv ns) (pkX s g h) := ⟨_, rfl⟩
  have HB := (show Hid _ from askP_any _ _ _ _ s g h w hN hg hh)
  rw [← hv] at HB
  rw [← hv]
  clear hN hv hg hh
  go_enter Tryz.func7, Tryz.ntmps7
  go_wp2_with fail
  refine Calls.mono HB.out ?_
  rintro e w2 ⟨ra, rl, rc, rs, err, rfl, hR, hT, hb2⟩
  have HT : Hid (Told (pkF ns s g h) v rs err) := hT
  clear HB hT
  go_wp2
  go_ret2
  exact ⟨ra, rl, rc, rs, err, rfl, hR, HT.out, hb2⟩
end Go.Proofs.YtambpcgdaogojabGreat

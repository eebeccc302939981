/-
  Contracts of package fixenc's isShift, step and joined.
  Contracts of package fixenc's pack and Pack.
-/
import Derived.Test.YtambpcgdaogojabGreatX7A
import Derived.Test.YtambpcgdaogojabGreatModB
import Derived.Test.YtambpcgdaogojabGreatDivOf
import Derived.Deep.RegionWith
import Derived.Deep.RegionHeld3
import Derived.BigRegion
import Derived.BigQuiet
namespace Go.Proofs.YtambpcgdaogojabGreat
open Go.RowKit

set_option maxHeartbeats 400000 in
theorem isshift_any (s : Int) (w : World) : Calls Tryz.prog 43 #[.int .i64 s] w fun e w' => e = .returned (.bool (shB s)) ∧ w' = w := by
  by_cases h1 : 1 ≤ s
  · have e : shB s = decide (s ≤ 62) := by unfold shB; rw [decide_eq_true h1, Bool.true_and]
    have HE : Hid (shB s = decide (s ≤ 62)) := e
    clear e
    go_enter Tryz.func43, Tryz.ntmps43
    go_wp2
    go_ret
    exact ⟨ret_bool HE.out.symm, rfl⟩
  · have HE : Hid (shB s = false) := by show _ = _; unfold shB; rw [decide_eq_false h1, Bool.false_and]
    have d1 : decide (1 ≤ s) = false := decide_eq_false h1
    clear h1
    go_enter Tryz.func43, Tryz.ntmps43
    go_wp2
    go_ret
    exact ⟨ret_bool HE.out.symm, rfl⟩

set_option maxHeartbeats 400000 in
theorem fstep_any (s : Int) (w : World) (hs : 0 ≤ s ∧ s ≤ 62) : Calls Tryz.prog 46 #[.int .i64 s] w fun e w' => e = .returned (.int .i64 (2 ^ s.toNat)) ∧ w' = w := by
  obtain ⟨n, rfl⟩ := Int.eq_ofNat_of_zero_le hs.1
  have hn : n ≤ 62 := by omega
  have h2 := pow62 hs
  rw [Int.toNat_natCast] at h2
  have HW : Hid (RowKit.wrap64 (2 ^ n) = 2 ^ n) := by show _ = _; unfold RowKit.wrap64; omega
  rw [Int.toNat_natCast]
  clear h2
  go_enter Tryz.func46, Tryz.ntmps46
  go_wp2
  go_ret
  refine ⟨?_, rfl⟩
  rw [HW.out]
  rfl

/-- A whole number's sign and limbs, as a call handed them back. -/
def WAt (w : World) (n : Bool) (a : Option Addr) (l c : Nat) (x : Int) : Prop := ∃ xs, Nums w a l c xs ∧ IsW n xs x
theorem WAt.below {w w' : World} {n : Bool} {a : Option Addr} {l c : Nat} {x : Int} (h : WAt w n a l c x) (hb : Below w.heap.size w w') : WAt w' n a l c x := by
  obtain ⟨xs, h1, h2⟩ := h
  exact ⟨xs, h1.below hb, h2⟩
theorem WAt.drew {w : World} {n : Bool} {a : Option Addr} {l c : Nat} {x : Int} (h : WAt w n a l c x) : WAt w.drew n a l c x := by
  obtain ⟨xs, h1, h2⟩ := h
  exact ⟨xs, h1.drawD, h2⟩
theorem WAt.grow {w : World} {n : Bool} {a : Option Addr} {l c : Nat} {x : Int} (h : WAt w n a l c x) (o : Obj) : WAt (w.alloc o) n a l c x := by
  obtain ⟨xs, h1, h2⟩ := h
  exact ⟨xs, h1.growD o, h2⟩

set_option maxRecDepth 20000 in
set_option maxHeartbeats 20000000 in
theorem joined_any (s g h : Int) (w : World) (hs0 : 0 ≤ s ∧ s ≤ 62) (hg : -9223372036854775808 ≤ g ∧ g < 9223372036854775808) (hh : -9223372036854775808 ≤ h ∧ h < 9223372036854775808) :
    Calls Tryz.prog 48 #[.agg #[.int .i64 s, .int .i64 g, .int .i64 h]] w fun e w' => TellsW (pkX s g h) w e w' := by
  obtain ⟨X, hX⟩ : ∃ X, X = pkX s g h := ⟨_, rfl⟩
  rw [← hX]
  obtain ⟨P, hP⟩ : ∃ P : Int, P = 2 ^ s.toNat := ⟨_, rfl⟩
  have hP1 := pow62 hs0
  rw [← hP] at hP1
  have HX : Hid (X = g * P + h) := by show _ = _; rw [hX, hP]; rfl
  have hPr : -9223372036854775808 ≤ P ∧ P < 9223372036854775808 := by omega
  have HSt : Hid (∀ wx, Calls Tryz.prog 46 #[.int .i64 s] wx fun e w' => e = .returned (.int .i64 P) ∧ wx = w') := fun wx => by
    rw [hP]
    exact (fstep_any s wx hs0).mono (fun e w' h => ⟨h.1, h.2.symm⟩)
  have hab := prod_abs (x := g) (y := P) (a := 9223372036854775808) (b := 4611686018427387904) (by omega) (by omega) (by decide)
  have hbig : (9223372036854775808 : Int) * 4611686018427387904 + 9223372036854775808 < 18446744073709551616 ^ 64 := by decide
  have HM1 : Hid (((g * P).natAbs : Int) < 18446744073709551616 ^ 64) := by show _ < _; omega
  have HM2 : Hid (((g * P + h).natAbs : Int) < 18446744073709551616 ^ 64) := by show _ < _; omega
  have hV := ((Below.refl w.heap.size w).alloc (Nat.le_refl _) (.cells #[.int .i64 s, .int .i64 g, .int .i64 h] 65)).alloc (by simp) (.cells #[.bool false, .slice none 0 0] 97)
  have c0 : ((w.alloc (.cells #[.int .i64 s, .int .i64 g, .int .i64 h] 65)).alloc (.cells #[.bool false, .slice none 0 0] 97)).cell? ⟨w.heap.size, 0, none⟩ = some (.int .i64 s) := by rw [World.cell?_alloc_lt _ _ _ (by simp)]; simp
  have c1 : ((w.alloc (.cells #[.int .i64 s, .int .i64 g, .int .i64 h] 65)).alloc (.cells #[.bool false, .slice none 0 0] 97)).cell? ⟨w.heap.size, 1, none⟩ = some (.int .i64 g) := by rw [World.cell?_alloc_lt _ _ _ (by simp)]; simp
  have c2 : ((w.alloc (.cells #[.int .i64 s, .int .i64 g, .int .i64 h] 65)).alloc (.cells #[.bool false, .slice none 0 0] 97)).cell? ⟨w.heap.size, 2, none⟩ = some (.int .i64 h) := by rw [World.cell?_alloc_lt _ _ _ (by simp)]; simp
  have d0 : ((w.alloc (.cells #[.int .i64 s, .int .i64 g, .int .i64 h] 65)).alloc (.cells #[.bool false, .slice none 0 0] 97)).cell? ⟨w.heap.size + 1, 0, none⟩ = some (.bool false) := by
    rw [show w.heap.size + 1 = (w.alloc (.cells #[.int .i64 s, .int .i64 g, .int .i64 h] 65)).heap.size by simp, World.cell?_alloc_new]; rfl
  have d1 : ((w.alloc (.cells #[.int .i64 s, .int .i64 g, .int .i64 h] 65)).alloc (.cells #[.bool false, .slice none 0 0] 97)).cell? ⟨w.heap.size + 1, 1, none⟩ = some (.slice none 0 0) := by
    rw [show w.heap.size + 1 = (w.alloc (.cells #[.int .i64 s, .int .i64 g, .int .i64 h] 65)).heap.size by simp, World.cell?_alloc_new]; rfl
  have f0 : ((w.alloc (.cells #[.int .i64 s, .int .i64 g, .int .i64 h] 65)).alloc (.cells #[.bool false, .slice none 0 0] 97)).frozen? ⟨w.heap.size + 1, 0, none⟩ = false := by
    rw [show w.heap.size + 1 = (w.alloc (.cells #[.int .i64 s, .int .i64 g, .int .i64 h] 65)).heap.size by simp]; exact World.frozen?_alloc_new _ _ _ _
  have f1 : ((w.alloc (.cells #[.int .i64 s, .int .i64 g, .int .i64 h] 65)).alloc (.cells #[.bool false, .slice none 0 0] 97)).frozen? ⟨w.heap.size + 1, 1, none⟩ = false := by
    rw [show w.heap.size + 1 = (w.alloc (.cells #[.int .i64 s, .int .i64 g, .int .i64 h] 65)).heap.size by simp]; exact World.frozen?_alloc_new _ _ _ _
  clear hX hP hs0 hab hbig hP1
  go_enter Tryz.func48, Tryz.ntmps48
  go_wp2_with fail
  generalize (w.alloc (.cells #[.int .i64 s, .int .i64 g, .int .i64 h] 65)).alloc (.cells #[.bool false, .slice none 0 0] 97) = V at *
  have hGV : w.heap.size < V.heap.size := World.block_lt_of_cell? _ _ c0
  have hRV : w.heap.size + 1 < V.heap.size := World.block_lt_of_cell? _ _ d0
  obtain ⟨G, hG⟩ : ∃ G, G = w.heap.size := ⟨_, rfl⟩
  rw [← hG] at c0 c1 c2 d0 d1 f0 f1 hGV hRV
  rw [← hG]
  have HRB : Hid (Below V.heap.size V V) := Below.refl _ _
  have HOg : Hid (∀ wx : World, Below V.heap.size V wx → Calls Tryz.prog 83 #[.int .i64 g] wx fun e w' => ∃ n a l c, e = .returned (.agg #[.bool n, .slice a l c]) ∧ Hid (WAt w' n a l c g ∧ Below V.heap.size V w') ∧ (w'.cell? ⟨G, 0, none⟩ = some (.int .i64 s) ∧ w'.cell? ⟨G, 1, none⟩ = some (.int .i64 g) ∧ G < w'.heap.size) ∧ (∀ b o, b < wx.heap.size → w'.cell? ⟨b, o, none⟩ = wx.cell? ⟨b, o, none⟩) ∧ (∀ b o, b < wx.heap.size → w'.frozen? ⟨b, o, none⟩ = wx.frozen? ⟨b, o, none⟩) ∧ (∀ b, b < wx.heap.size → b < w'.heap.size)) := by
    intro wx hbx
    refine (iof_any g wx hg).mono ?_
    rintro e w' ⟨a', n', c', rfl, hn, hb⟩
    have hb' := hbx.trans (hb.mono hbx.size)
    exact ⟨_, _, _, _, rfl, ⟨⟨_, hn, IsW.of hg⟩, hb'⟩, ⟨bkeep hb' c0 rfl, bkeep hb' c1 rfl, Nat.lt_of_lt_of_le hGV hb'.size⟩, bfactsD hb⟩
  have HOp : Hid (∀ wx : World, Below V.heap.size V wx → Calls Tryz.prog 83 #[.int .i64 P] wx fun e w' => ∃ n a l c, e = .returned (.agg #[.bool n, .slice a l c]) ∧ Hid (WAt w' n a l c P ∧ Below V.heap.size V w' ∧ ∀ n a l c, WAt wx n a l c g → WAt w' n a l c g) ∧ (w'.cell? ⟨G, 0, none⟩ = some (.int .i64 s) ∧ w'.cell? ⟨G, 1, none⟩ = some (.int .i64 g) ∧ G < w'.heap.size) ∧ (∀ b o, b < wx.heap.size → w'.cell? ⟨b, o, none⟩ = wx.cell? ⟨b, o, none⟩) ∧ (∀ b o, b < wx.heap.size → w'.frozen? ⟨b, o, none⟩ = wx.frozen? ⟨b, o, none⟩) ∧ (∀ b, b < wx.heap.size → b < w'.heap.size)) := by
    intro wx hbx
    refine (iof_any P wx hPr).mono ?_
    rintro e w' ⟨a', n', c', rfl, hn, hb⟩
    have hb' := hbx.trans (hb.mono hbx.size)
    exact ⟨_, _, _, _, rfl, ⟨⟨_, hn, IsW.of hPr⟩, hb', fun _ _ _ _ hk => hk.below hb⟩, ⟨bkeep hb' c0 rfl, bkeep hb' c1 rfl, Nat.lt_of_lt_of_le hGV hb'.size⟩, bfactsD hb⟩
  have HMu : Hid (∀ (wx : World) gn ga gl gc pn pa pl pc, WAt wx gn ga gl gc g → WAt wx pn pa pl pc P → Below V.heap.size V wx → Calls Tryz.prog 82 #[.agg #[.bool gn, .slice ga gl gc], .agg #[.bool pn, .slice pa pl pc]] wx fun e w' => ∃ n a l c, e = .returned (.tuple #[.agg #[.bool n, .slice a l c], .int .i64 0]) ∧ Hid (WAt w' n a l c (g * P) ∧ Below V.heap.size V w') ∧ (w'.cell? ⟨G, 0, none⟩ = some (.int .i64 s) ∧ w'.cell? ⟨G, 1, none⟩ = some (.int .i64 g) ∧ G < w'.heap.size) ∧ (∀ b o, b < wx.heap.size → w'.cell? ⟨b, o, none⟩ = wx.cell? ⟨b, o, none⟩) ∧ (∀ b o, b < wx.heap.size → w'.frozen? ⟨b, o, none⟩ = wx.frozen? ⟨b, o, none⟩) ∧ (∀ b, b < wx.heap.size → b < w'.heap.size)) := by
    rintro wx gn ga gl gc pn pa pl pc ⟨gs, hgn, hgW⟩ ⟨ps, hpn, hpW⟩ hbx
    refine (imul_any gn pn _ _ _ _ _ _ _ _ wx hgn hpn).mono ?_
    rintro e w' ⟨q, a', n', c', ls, err, rfl, hn, hR, hb⟩
    have hb' := hbx.trans (hb.mono hbx.size)
    have := hR.got hgW.2.1 hpW.2.1
    rw [hgW.2.2, hpW.2.2] at this
    obtain ⟨h3, rfl⟩ := IsW.res this HM1.out
    exact ⟨_, _, _, _, rfl, ⟨⟨_, hn, h3⟩, hb'⟩, ⟨bkeep hb' c0 rfl, bkeep hb' c1 rfl, Nat.lt_of_lt_of_le hGV hb'.size⟩, bfactsD hb⟩
  go_cut [3] (fun pv wx => ∃ g3, pv = .pointer (some ⟨g3, 0, none⟩) ∧ Fac wx g3 (g * P) ∧ V.heap.size ≤ g3 ∧ Below V.heap.size V wx)
  case first =>
    clear HM1 HM2 HX hV c2 d0 d1 f0 f1 hG hg hh hPr hRV
    have ne0 := World.new_ne V ⟨G, 0, none⟩ c0
    go_region_held3 (fun w' => w'.cell? ⟨G, 0, none⟩ = some (.int .i64 s) ∧ w'.cell? ⟨G, 1, none⟩ = some (.int .i64 g)) (first | go_keep | exact ⟨o0, o1⟩ | exact ⟨n0, n1⟩ | exact ⟨(put2_other (by omega) _ _).trans o0, (put2_other (by omega) _ _).trans o1⟩)
      (first
      | (go_at_call 83; with_reducible refine Calls.mono (HOg.out _ ?_) ?_; (focus (repeat (first | exact HRB.out | refine bdrawD ?_ | refine bgrowD ?_ _))); rintro e w3 ⟨gn, ga, gl, gc, rfl, hA, ⟨n0, n1, n2⟩, hc3, hf3, hs3⟩; have ne3 := World.new_ne w3 ⟨G, 0, none⟩ n0; (try have k30 := hs3 (V.heap.size) (by first | omega | (simp; done) | (simp; omega))); (try have m300 := hc3 (V.heap.size) 0 (by first | omega | (simp; done) | (simp; omega))); (try have f300 := hf3 (V.heap.size) 0 (by first | omega | (simp; done) | (simp; omega))); (try have m301 := hc3 (V.heap.size) 1 (by first | omega | (simp; done) | (simp; omega))); (try have f301 := hf3 (V.heap.size) 1 (by first | omega | (simp; done) | (simp; omega))); clear hc3 hf3 hs3)
      | (go_at_call 46; refine (HSt.out _).mono ?_; rintro e w4 ⟨rfl, rfl⟩)
      | (go_at_call 83; with_reducible refine Calls.mono (HOp.out _ ?_) ?_; (focus (repeat (first | exact hA.out.2 | refine bdrawD ?_ | refine bgrowD ?_ _))); rintro e w5 ⟨pn, pa, pl, pc, rfl, hB, ⟨p0, p1, p2⟩, hc5, hf5, hs5⟩; have ne5 := World.new_ne w5 ⟨G, 0, none⟩ p0; have hA5 := hB.out.2.2 gn ga gl gc (by (focus (repeat (first | exact hA.out.1 | refine WAt.drew ?_ | refine WAt.grow ?_ _)))); (try have k50 := hs5 (V.heap.size) (by first | omega | (simp; done) | (simp; omega))); (try have m500 := hc5 (V.heap.size) 0 (by first | omega | (simp; done) | (simp; omega))); (try have f500 := hf5 (V.heap.size) 0 (by first | omega | (simp; done) | (simp; omega))); (try have m501 := hc5 (V.heap.size) 1 (by first | omega | (simp; done) | (simp; omega))); (try have f501 := hf5 (V.heap.size) 1 (by first | omega | (simp; done) | (simp; omega))); (try have k51 := hs5 (w3.heap.size) (by first | omega | (simp; done) | (simp; omega))); (try have m510 := hc5 (w3.heap.size) 0 (by first | omega | (simp; done) | (simp; omega))); (try have f510 := hf5 (w3.heap.size) 0 (by first | omega | (simp; done) | (simp; omega))); (try have m511 := hc5 (w3.heap.size) 1 (by first | omega | (simp; done) | (simp; omega))); (try have f511 := hf5 (w3.heap.size) 1 (by first | omega | (simp; done) | (simp; omega))); clear hc5 hf5 hs5)
      | (go_at_call 82; with_reducible refine Calls.mono (HMu.out _ gn ga gl gc pn pa pl pc ?_ ?_ ?_) ?_; (focus (repeat (first | exact hA5 | refine WAt.drew ?_ | refine WAt.grow ?_ _))); (focus (repeat (first | exact hB.out.1 | refine WAt.drew ?_ | refine WAt.grow ?_ _))); (focus (repeat (first | exact hB.out.2.1 | refine bdrawD ?_ | refine bgrowD ?_ _))); rintro e w6 ⟨mp, ma, mn, mc, rfl, hM, ⟨o0, o1, o2⟩, hc6, hf6, hs6⟩; have ne6 := World.new_ne w6 ⟨G, 0, none⟩ o0; (try have k60 := hs6 (V.heap.size) (by first | omega | (simp; done) | (simp; omega))); (try have m600 := hc6 (V.heap.size) 0 (by first | omega | (simp; done) | (simp; omega))); (try have f600 := hf6 (V.heap.size) 0 (by first | omega | (simp; done) | (simp; omega))); (try have m601 := hc6 (V.heap.size) 1 (by first | omega | (simp; done) | (simp; omega))); (try have f601 := hf6 (V.heap.size) 1 (by first | omega | (simp; done) | (simp; omega))); (try have k61 := hs6 (w3.heap.size) (by first | omega | (simp; done) | (simp; omega))); (try have m610 := hc6 (w3.heap.size) 0 (by first | omega | (simp; done) | (simp; omega))); (try have f610 := hf6 (w3.heap.size) 0 (by first | omega | (simp; done) | (simp; omega))); (try have m611 := hc6 (w3.heap.size) 1 (by first | omega | (simp; done) | (simp; omega))); (try have f611 := hf6 (w3.heap.size) 1 (by first | omega | (simp; done) | (simp; omega))); (try have k62 := hs6 (w5.heap.size) (by first | omega | (simp; done) | (simp; omega))); (try have m620 := hc6 (w5.heap.size) 0 (by first | omega | (simp; done) | (simp; omega))); (try have f620 := hf6 (w5.heap.size) 0 (by first | omega | (simp; done) | (simp; omega))); (try have m621 := hc6 (w5.heap.size) 1 (by first | omega | (simp; done) | (simp; omega))); (try have f621 := hf6 (w5.heap.size) 1 (by first | omega | (simp; done) | (simp; omega))); clear hc6 hf6 hs6))
    all_goals
      have hz6 := hM.out.2.size
      have hz5 := hB.out.2.1.size
      have hz3 := hA.out.2.size
      clear HOg HOp HMu HSt HRB hA5
      go_wp2_with fail
      go_meet
      case rel =>
        obtain ⟨⟨ms, hMs, hMW⟩, hbM⟩ := hM.out
        first
          | exact ⟨_, rfl, fac_alloc hMs hMW.2.1 hMW.2.2, hz6, bgrowD hbM _⟩
          | (refine ⟨_, rfl, fac_put (q := false) (sa := none) (sn := 0) (sc := 0) ?_ ?_ ?_ ?_ hMs hMW.2.1 hMW.2.2, ?_, (hbM.setCell ?_ _).setCell ?_ _⟩
             · go_simp
             · go_simp
             · go_simp
             · go_simp
             · first | omega | (simp; done) | (simp; omega)
             · first | (simp; done) | (simp; omega)
             · first | (simp; done) | (simp; omega))
  case rest =>
    obtain ⟨g3, rfl, F3, hg3, hbc⟩ := hcut
    obtain ⟨W, hW⟩ : ∃ W, W = wc := ⟨_, rfl⟩
    subst hW
    have hBW := hV.trans (hbc.mono hV.size)
    replace c2 := bkeep hbc c2 rfl
    replace d0 := bkeep hbc d0 rfl
    replace d1 := bkeep hbc d1 rfl
    replace f0 := ((bcell hbc).2 _ 0 hRV).trans f0
    replace f1 := ((bcell hbc).2 _ 1 hRV).trans f1
    have hGW : G < W.heap.size := Nat.lt_of_lt_of_le hGV hbc.size
    have hRW : G + 1 < W.heap.size := Nat.lt_of_lt_of_le hRV hbc.size
    have hne : G ≠ g3 := by omega
    clear HOg HOp HMu HSt HRB HM1 c0 c1 hV hbc hGV hRV hg hPr
    obtain ⟨xp, xa, xn, xc, xs, ⟨e0, e1⟩, -, hXn, hXr, hXv⟩ := F3
    have hXW : IsW xp xs (g * P) := ⟨hXn.digs, hXr, hXv⟩
    have hgW : g3 < W.heap.size := World.block_lt_of_cell? _ _ e0
    have HRB : Hid (Below W.heap.size W W) := Below.refl _ _
    have HOh : Hid (∀ wx : World, Below W.heap.size W wx → Calls Tryz.prog 83 #[.int .i64 h] wx fun e w' => ∃ n a l c, e = .returned (.agg #[.bool n, .slice a l c]) ∧ Hid (WAt w' n a l c h ∧ Below W.heap.size W w') ∧ (w'.cell? ⟨G, 2, none⟩ = some (.int .i64 h) ∧ (w'.cell? ⟨g3, 0, none⟩ = some (.bool xp) ∧ w'.cell? ⟨g3, 1, none⟩ = some (.slice xa xn xc)) ∧ G < w'.heap.size ∧ g3 < w'.heap.size) ∧ (∀ b o, b < wx.heap.size → w'.cell? ⟨b, o, none⟩ = wx.cell? ⟨b, o, none⟩) ∧ (∀ b o, b < wx.heap.size → w'.frozen? ⟨b, o, none⟩ = wx.frozen? ⟨b, o, none⟩) ∧ (∀ b, b < wx.heap.size → b < w'.heap.size)) := by
      intro wx hbx
      refine (iof_any h wx hh).mono ?_
      rintro e w' ⟨a', n', c', rfl, hn, hb⟩
      have hb' := hbx.trans (hb.mono hbx.size)
      exact ⟨_, _, _, _, rfl, ⟨⟨_, hn, IsW.of hh⟩, hb'⟩, ⟨bkeep hb' c2 rfl, ⟨bkeep hb' e0 rfl, bkeep hb' e1 rfl⟩, Nat.lt_of_lt_of_le hGW hb'.size, Nat.lt_of_lt_of_le hgW hb'.size⟩, bfactsD hb⟩
    have HAd : Hid (∀ (wx : World) pn pa pl pc, WAt wx pn pa pl pc h → Below W.heap.size W wx → Calls Tryz.prog 84 #[.agg #[.bool xp, .slice xa xn xc], .agg #[.bool pn, .slice pa pl pc]] wx fun e w' => ∃ n a l c, e = .returned (.tuple #[.agg #[.bool n, .slice a l c], .int .i64 0]) ∧ Hid (WAt w' n a l c X ∧ Below W.heap.size W w') ∧ (w'.cell? ⟨G, 2, none⟩ = some (.int .i64 h) ∧ (w'.cell? ⟨g3, 0, none⟩ = some (.bool xp) ∧ w'.cell? ⟨g3, 1, none⟩ = some (.slice xa xn xc)) ∧ G < w'.heap.size ∧ g3 < w'.heap.size) ∧ (∀ b o, b < wx.heap.size → w'.cell? ⟨b, o, none⟩ = wx.cell? ⟨b, o, none⟩) ∧ (∀ b o, b < wx.heap.size → w'.frozen? ⟨b, o, none⟩ = wx.frozen? ⟨b, o, none⟩) ∧ (∀ b, b < wx.heap.size → b < w'.heap.size)) := by
      rintro wx pn pa pl pc ⟨ps, hpn, hpW⟩ hbx
      refine (iadd_any xp pn _ _ _ _ _ _ _ _ wx (hXn.below hbx) hpn).mono ?_
      rintro e w' ⟨q, a', n', c', ls, err, rfl, hn, hR, hb⟩
      have hb' := hbx.trans (hb.mono hbx.size)
      have := hR.got hXW.2.1 hpW.2.1
      rw [hXW.2.2, hpW.2.2] at this
      obtain ⟨h3, rfl⟩ := IsW.res this HM2.out
      rw [← HX.out] at h3
      exact ⟨_, _, _, _, rfl, ⟨⟨_, hn, h3⟩, hb'⟩, ⟨bkeep hb' c2 rfl, ⟨bkeep hb' e0 rfl, bkeep hb' e1 rfl⟩, Nat.lt_of_lt_of_le hGW hb'.size, Nat.lt_of_lt_of_le hgW hb'.size⟩, bfactsD hb⟩
    go_wp2_with fail
    go_cut [5] (fun pv wx => ∃ g5, pv = .pointer (some ⟨g5, 0, none⟩) ∧ Fac wx g5 X ∧ W.heap.size ≤ g5 ∧ Below W.heap.size W wx)
    case first =>
      clear HM2 HX d0 d1 f0 f1 hG hh hXn hXr hXv hXW hBW hRW hg3
      have ne0 := World.new_ne W ⟨G, 2, none⟩ c2
      have ne1 := World.new_ne W ⟨g3, 0, none⟩ e0
      go_region_held3 (fun w' => w'.cell? ⟨G, 2, none⟩ = some (.int .i64 h) ∧ w'.cell? ⟨g3, 0, none⟩ = some (.bool xp) ∧ w'.cell? ⟨g3, 1, none⟩ = some (.slice xa xn xc)) (first | go_keep | exact ⟨o0, o1⟩ | exact ⟨n0, n1⟩ | exact ⟨(put2_other (by omega) _ _).trans o0, (put2_other (by omega) _ _).trans o1.1, (put2_other (by omega) _ _).trans o1.2⟩)
        (first
        | (go_at_call 83; with_reducible refine Calls.mono (HOh.out _ ?_) ?_; (focus (repeat (first | exact HRB.out | refine bdrawD ?_ | refine bgrowD ?_ _))); rintro e w3 ⟨pn, pa, pl, pc, rfl, hA, ⟨n0, n1, n2, n3⟩, hc3, hf3, hs3⟩; have ne3 := World.new_ne w3 ⟨G, 2, none⟩ n0; have ne4 := World.new_ne w3 ⟨g3, 0, none⟩ n1.1; (try have k30 := hs3 (W.heap.size) (by first | omega | (simp; done) | (simp; omega))); (try have m300 := hc3 (W.heap.size) 0 (by first | omega | (simp; done) | (simp; omega))); (try have f300 := hf3 (W.heap.size) 0 (by first | omega | (simp; done) | (simp; omega))); (try have m301 := hc3 (W.heap.size) 1 (by first | omega | (simp; done) | (simp; omega))); (try have f301 := hf3 (W.heap.size) 1 (by first | omega | (simp; done) | (simp; omega))); clear hc3 hf3 hs3)
        | (go_at_call 84; with_reducible refine Calls.mono (HAd.out _ pn pa pl pc ?_ ?_) ?_; (focus (repeat (first | exact hA.out.1 | refine WAt.drew ?_ | refine WAt.grow ?_ _))); (focus (repeat (first | exact hA.out.2 | refine bdrawD ?_ | refine bgrowD ?_ _))); rintro e w6 ⟨mp, ma, mn, mc, rfl, hM, ⟨o0, o1, o2, o3⟩, hc6, hf6, hs6⟩; have ne6 := World.new_ne w6 ⟨G, 2, none⟩ o0; have ne7 := World.new_ne w6 ⟨g3, 0, none⟩ o1.1; (try have k60 := hs6 (W.heap.size) (by first | omega | (simp; done) | (simp; omega))); (try have m600 := hc6 (W.heap.size) 0 (by first | omega | (simp; done) | (simp; omega))); (try have f600 := hf6 (W.heap.size) 0 (by first | omega | (simp; done) | (simp; omega))); (try have m601 := hc6 (W.heap.size) 1 (by first | omega | (simp; done) | (simp; omega))); (try have f601 := hf6 (W.heap.size) 1 (by first | omega | (simp; done) | (simp; omega))); (try have k61 := hs6 (w3.heap.size) (by first | omega | (simp; done) | (simp; omega))); (try have m610 := hc6 (w3.heap.size) 0 (by first | omega | (simp; done) | (simp; omega))); (try have f610 := hf6 (w3.heap.size) 0 (by first | omega | (simp; done) | (simp; omega))); (try have m611 := hc6 (w3.heap.size) 1 (by first | omega | (simp; done) | (simp; omega))); (try have f611 := hf6 (w3.heap.size) 1 (by first | omega | (simp; done) | (simp; omega))); clear hc6 hf6 hs6))
      all_goals
        have hz6 := hM.out.2.size
        have hz3 := hA.out.2.size
        clear HOh HAd HRB
        go_wp2_with fail
        go_meet
        case rel =>
          obtain ⟨⟨ms, hMs, hMW⟩, hbM⟩ := hM.out
          first
            | exact ⟨_, rfl, fac_alloc hMs hMW.2.1 hMW.2.2, hz6, bgrowD hbM _⟩
            | (refine ⟨_, rfl, fac_put (q := false) (sa := none) (sn := 0) (sc := 0) ?_ ?_ ?_ ?_ hMs hMW.2.1 hMW.2.2, ?_, (hbM.setCell ?_ _).setCell ?_ _⟩
               · go_simp
               · go_simp
               · go_simp
               · go_simp
               · first | omega | (simp; done) | (simp; omega)
               · first | (simp; done) | (simp; omega)
               · first | (simp; done) | (simp; omega))
    case rest =>
      obtain ⟨g5, rfl, F5, hg5, hbc⟩ := hcut
      have hB5 := hBW.trans (hbc.mono hBW.size)
      replace d0 := bkeep hbc d0 rfl
      replace d1 := bkeep hbc d1 rfl
      replace f0 := ((bcell hbc).2 _ 0 hRW).trans f0
      replace f1 := ((bcell hbc).2 _ 1 hRW).trans f1
      clear HOh HAd HRB HM2 HX c2 e0 e1 hXn hXr hXv hXW hbc hBW hGW hgW hh
      obtain ⟨zp, za, zn, zc, zs, ⟨e0, e1⟩, -, hZn, hZr, hZv⟩ := F5
      have HZ : Hid (IsW zp zs X) := ⟨hZn.digs, hZr, hZv⟩
      have hn2 := hZn.put2 d0 d1 (.bool zp) (.slice za zn zc)
      have hBB := (hB5.setCell (p := ⟨G + 1, 0, none⟩) (by rw [hG]; exact Nat.le_succ _) (.bool zp)).setCell (p := ⟨G + 1, 1, none⟩) (by rw [hG]; exact Nat.le_succ _) (.slice za zn zc)
      clear hZn hZr hZv hB5 hG
      go_wp2_with fail
      exact bodyPost_ret (v := .agg #[.bool zp, .slice za zn zc]) (by simp [results, Tryz.results48, go_sem, d0, d1]) rfl ⟨zp, za, zn, zc, zs, rfl, hn2, HZ.out, hBB⟩
end Go.Proofs.YtambpcgdaogojabGreat

namespace Go.Proofs.YtambpcgdaogojabGreat
open Go.RowKit

/-- The cells of a block of two cells and of one of three that were made in a row. -/
theorem held23 {w w2 : World} {x y x' y' z' : Value} {t t' : TypeId} (hb : Below ((w.alloc (.cells #[x, y] t)).alloc (.cells #[x', y', z'] t')).heap.size ((w.alloc (.cells #[x, y] t)).alloc (.cells #[x', y', z'] t')) w2) :
    (w2.cell? ⟨w.heap.size, 0, none⟩ = some x ∧ w2.cell? ⟨w.heap.size, 1, none⟩ = some y) ∧ (w2.cell? ⟨w.heap.size + 1, 0, none⟩ = some x' ∧ w2.cell? ⟨w.heap.size + 1, 1, none⟩ = some y' ∧ w2.cell? ⟨w.heap.size + 1, 2, none⟩ = some z') := by
  obtain ⟨hc, hf⟩ := bcell hb
  refine ⟨⟨?_, ?_⟩, ?_, ?_, ?_⟩
  · rw [hc w.heap.size 0 (by simp; omega)]; simp
  · rw [hc w.heap.size 1 (by simp; omega)]; simp
  · rw [hc (w.heap.size + 1) 0 (by simp)]; simp
  · rw [hc (w.heap.size + 1) 1 (by simp)]; simp
  · rw [hc (w.heap.size + 1) 2 (by simp)]; simp

set_option maxRecDepth 20000 in
set_option maxHeartbeats 6400000 in
theorem mpack_any (a ha : Option Addr) (la ca hl hc : Nat) (ns hs : List Int) (s g h : Int) (w : World) (hN : Nums w a la ca ns) (hH : Nums w ha hl hc hs) (hm : modB ns = true) (hI : IsN hs (hlf (nv ns)))
    (hg : -9223372036854775808 ≤ g ∧ g < 9223372036854775808) (hh : -9223372036854775808 ≤ h ∧ h < 9223372036854775808) :
    Calls Tryz.prog 20 #[.agg #[.slice a la ca, .slice ha hl hc], .agg #[.int .i64 s, .int .i64 g, .int .i64 h]] w fun e w' => TripT (pkF ns s g h) (codV (nv ns) (pkX s g h)) w e w' := by
  obtain ⟨X, hX⟩ : ∃ X, X = pkX s g h := ⟨_, rfl⟩
  rw [← hX]
  have HX : Hid (X = pkX s g h) := hX
  clear hX
  have hV := ((Below.refl w.heap.size w).alloc (Nat.le_refl _) (.cells #[.slice a la ca, .slice ha hl hc] 60)).alloc (by simp) (.cells #[.int .i64 s, .int .i64 g, .int .i64 h] 65)
  have KN : Hid (∀ wx, Below w.heap.size w wx → Nums wx a la ca ns ∧ Nums wx ha hl hc hs) := fun wx hb => ⟨hN.below hb, hH.below hb⟩
  clear hN hH
  go_enter Tryz.func20, Tryz.ntmps20
  go_wp2_with fail
  refine (isshift_any s _).mono ?_
  rintro e w1 ⟨rfl, rfl⟩
  obtain ⟨⟨c0, c1⟩, d0, d1, d2⟩ := held23 (w := w) (x := .slice a la ca) (y := .slice ha hl hc) (x' := .int .i64 s) (y' := .int .i64 g) (z' := .int .i64 h) (t := 60) (t' := 65) (Below.refl _ _)
  generalize (w.alloc (.cells #[.slice a la ca, .slice ha hl hc] 60)).alloc (.cells #[.int .i64 s, .int .i64 g, .int .i64 h] 65) = V at *
  cases hsB : shB s with
  | false =>
    have HF : Hid (Told (pkF ns s g h) (codV (nv ns) X) [] 1) := Told.bad (by unfold pkF; rw [hm, hsB]; rfl)
    clear c0 c1 d0 d1 d2 KN hI hg hh
    go_wp2
    go_ret2
    exact ⟨none, 0, 0, [], 1, rfl, Nums.nil _, HF.out, hV⟩
  | true =>
    have hs0 : 0 ≤ s ∧ s ≤ 62 := by have := (shB_iff s).1 hsB; omega
    obtain ⟨P, hP⟩ : ∃ P : Int, P = 2 ^ s.toNat := ⟨_, rfl⟩
    have HP : Hid (P = 2 ^ s.toNat) := hP
    have HSt : Hid (∀ wx, Calls Tryz.prog 46 #[.int .i64 s] wx fun e w' => e = .returned (.int .i64 P) ∧ wx = w') := fun wx => by
      rw [hP]
      exact (fstep_any s wx hs0).mono (fun e w' h => ⟨h.1, h.2.symm⟩)
    clear hP
    by_cases h0 : h < 0
    · have HF : Hid (Told (pkF ns s g h) (codV (nv ns) X) [] 12) := Told.bad (by unfold pkF; rw [hm, hsB, decide_eq_false (show ¬ 0 ≤ h by omega)]; rfl)
      clear KN hI hg hh hs0 HP
      go_wp2_with fail
      clear HSt
      go_quiet (fail)
      go_wp2
      go_ret2
      exact ⟨none, 0, 0, [], 12, rfl, Nums.nil _, HF.out, hV.os, hV.tape, hV.output, hV.size, hV.block⟩
    · have q0 : decide (h < 0) = false := decide_eq_false h0
      by_cases hlt : h < P
      · have q1 : decide (P ≤ h) = false := decide_eq_false (by omega)
        have HJo : Hid (∀ wx, Below V.heap.size V wx → Calls Tryz.prog 48 #[.agg #[.int .i64 s, .int .i64 g, .int .i64 h]] wx fun e w' => ∃ n xa xl xc, e = .returned (.agg #[.bool n, .slice xa xl xc]) ∧ Hid (WAt w' n xa xl xc X ∧ Below V.heap.size V w') ∧ w'.cell? ⟨w.heap.size, 0, none⟩ = some (.slice a la ca) ∧ w'.cell? ⟨w.heap.size, 1, none⟩ = some (.slice ha hl hc)) := by
          intro wx hbx
          refine (joined_any s g h wx hs0 hg hh).mono ?_
          rintro e w' ⟨n, xa, xl, xc, xs, rfl, hn, hW, hb⟩
          rw [← HX.out] at hW
          have hb' := hbx.trans (hb.mono hbx.size)
          exact ⟨n, xa, xl, xc, rfl, ⟨⟨xs, hn, hW⟩, hb'⟩, bkeep hb' c0 rfl, bkeep hb' c1 rfl⟩
        have HEn : Hid (∀ wx n xa xl xc, WAt wx n xa xl xc X → Below V.heap.size V wx → Calls Tryz.prog 47 #[.agg #[.slice a la ca, .slice ha hl hc], .agg #[.bool n, .slice xa xl xc]] wx fun e w' => ∃ ra rl rc err, e = .returned (.tuple #[.slice ra rl rc, .int .i64 err]) ∧ Hid (∃ rs, Nums w' ra rl rc rs ∧ Told (pkF ns s g h) (codV (nv ns) X) rs err ∧ Below w.heap.size w w')) := by
          rintro wx n xa xl xc ⟨xs, hx, hW⟩ hbx
          have hbw := hV.trans (hbx.mono hV.size)
          obtain ⟨k1, k2⟩ := KN.out wx hbw
          refine (mencode_any n _ _ _ _ _ _ _ _ _ ns hs xs wx k1 k2 hx hm hI).mono ?_
          rintro e w' ⟨ra, rl, rc, rs, err, rfl, hR, hT, hb⟩
          rw [cod_pk hm hsB (Int.not_lt.1 h0) (by rw [← HP.out]; exact hlt) (by rw [← HX.out]; exact hW), hW.2.2] at hT
          exact ⟨ra, rl, rc, err, rfl, ⟨rs, hR, hT, hbw.trans (hb.mono hbw.size)⟩⟩
        have HRB : Hid (Below V.heap.size V V) := Below.refl _ _
        clear KN hI hg hh hs0 HP hV
        go_wp2_with fail
        go_cut [22] (fun v wx => v = .bool false ∧ (wx.cell? ⟨w.heap.size, 0, none⟩ = some (.slice a la ca) ∧ wx.cell? ⟨w.heap.size, 1, none⟩ = some (.slice ha hl hc)) ∧ (wx.cell? ⟨w.heap.size + 1, 0, none⟩ = some (.int .i64 s) ∧ wx.cell? ⟨w.heap.size + 1, 1, none⟩ = some (.int .i64 g) ∧ wx.cell? ⟨w.heap.size + 1, 2, none⟩ = some (.int .i64 h)) ∧ Below V.heap.size V wx)
        case first =>
          clear HJo HEn
          go_region_held3 (fun w' => w'.cell? ⟨w.heap.size + 1, 0, none⟩ = some (.int .i64 s) ∧ w'.cell? ⟨w.heap.size + 1, 2, none⟩ = some (.int .i64 h)) (first | go_keep | exact ⟨d0, d2⟩) (first | (go_at_call 46; refine (HSt.out _).mono ?_; rintro e w4 ⟨rfl, rfl⟩))
          all_goals
            clear HSt
            go_wp2_with fail
            go_meet
            case rel => exact ⟨by first | rfl | simp [q1], ⟨c0, c1⟩, ⟨d0, d1, d2⟩, bdrawD HRB.out⟩
        case rest =>
          obtain ⟨rfl, ⟨c0', c1'⟩, ⟨d0', d1', d2'⟩, hbc⟩ := hcut
          clear c0 c1 d0 d1 d2 HSt HRB q0 q1
          go_wp2_with fail
          go_region_with
            (first
            | (go_at_call 48; refine (HJo.out _ ?_).mono ?_; (exact ⟨hbc.os, hbc.tape, hbc.output, hbc.size, hbc.block⟩); rintro e w3 ⟨n, xa, xl, xc, rfl, hJ, k0, k1⟩)
            | (go_at_call 47; refine (HEn.out _ _ _ _ _ ?_ ?_).mono ?_; (exact hJ.out.1); (exact hJ.out.2); rintro e w4 ⟨ra, rl, rc, err, rfl, hR⟩))
          all_goals
            clear HJo HEn hJ
            go_wp2_with fail
            go_ret2
            obtain ⟨rs, g1, g2, g3⟩ := hR.out
            exact ⟨ra, rl, rc, rs, err, rfl, g1, g2, g3⟩
      · have q1 : P ≤ h := by omega
        have HF : Hid (Told (pkF ns s g h) (codV (nv ns) X) [] 12) := Told.bad (by unfold pkF; rw [hm, hsB, ← HP.out, decide_eq_false hlt, Bool.and_false]; rfl)
        clear KN hI hg hh hs0 HP
        go_wp2_with fail
        go_region_held3 (fun w' => w'.cell? ⟨w.heap.size + 1, 0, none⟩ = some (.int .i64 s) ∧ w'.cell? ⟨w.heap.size + 1, 2, none⟩ = some (.int .i64 h)) (first | go_keep | exact ⟨d0, d2⟩) (first | (go_at_call 46; refine (HSt.out _).mono ?_; rintro e w4 ⟨rfl, rfl⟩))
        all_goals
          clear HSt
          go_wp2
          go_ret2
          exact ⟨none, 0, 0, [], 12, rfl, Nums.nil _, HF.out, hV.os, hV.tape, hV.output, hV.size, hV.block⟩

theorem held3 {w w2 : World} {x y z : Value} {t : TypeId} (hb : Below (w.alloc (.cells #[x, y, z] t)).heap.size (w.alloc (.cells #[x, y, z] t)) w2) :
    w2.cell? ⟨w.heap.size, 0, none⟩ = some x ∧ w2.cell? ⟨w.heap.size, 1, none⟩ = some y ∧ w2.cell? ⟨w.heap.size, 2, none⟩ = some z := by
  obtain ⟨hc, hf⟩ := bcell hb
  refine ⟨?_, ?_, ?_⟩
  · rw [hc _ _ (by simp)]; simp
  · rw [hc _ _ (by simp)]; simp
  · rw [hc _ _ (by simp)]; simp

set_option maxRecDepth 20000 in
set_option maxHeartbeats 3200000 in
theorem askP_any (a : Option Addr) (la ca : Nat) (ns : List Int) (s g h : Int) (w : World) (hN : Nums w a la ca ns) (hg : -9223372036854775808 ≤ g ∧ g < 9223372036854775808) (hh : -9223372036854775808 ≤ h ∧ h < 9223372036854775808) :
    Calls Tryz.prog 19 #[.slice a la ca, .func (.func 20) #[] #[], .agg #[.int .i64 s, .int .i64 g, .int .i64 h]] w fun e w' => TripT (pkF ns s g h) (codV (nv ns) (pkX s g h)) w e w' := by
  have hV := (Below.refl w.heap.size w).alloc (Nat.le_refl _) (.cells #[.int .i64 s, .int .i64 g, .int .i64 h] 65)
  have k := hN.below hV
  have HM := (show Hid _ from ismod_any _ _ _ _ _ k)
  obtain ⟨v, hv⟩ : ∃ v, v = codV (nv ns) (pkX s g h) := ⟨_, rfl⟩
  rw [← hv]
  have hE := Tryz.call20
  clear hN
  go_enter Tryz.func19, Tryz.ntmps19
  go_wp2_with fail
  refine Calls.mono HM.out ?_
  rintro e w1 ⟨rfl, hb1⟩
  obtain ⟨c0, c1, c2⟩ := held3 hb1
  have hB1 := hV.trans (hb1.mono hV.size)
  replace k := k.below hb1
  clear HM hV hb1
  cases hm : modB ns with
  | false =>
    have HF : Hid (Told (pkF ns s g h) v [] 1) := Told.bad (by unfold pkF; rw [hm]; rfl)
    clear k c0 c1 c2 hv hE
    go_wp2
    go_ret2
    exact ⟨none, 0, 0, [], 1, rfl, Nums.nil _, HF.out, hB1⟩
  | true =>
    obtain ⟨rn, n8, n3⟩ := (modB_iff ns).1 hm
    have hn := IsN.self k.digs rn
    have HMo : Hid (∀ wx, Below w1.heap.size w1 wx → Calls Tryz.prog 40 #[.slice a la ca] wx fun e w' => ∃ ha hl hc, e = .returned (.agg #[.slice a la ca, .slice ha hl hc]) ∧ Hid (∃ hs, Nums w' ha hl hc hs ∧ IsN hs (hlf (nv ns)) ∧ Below w1.heap.size w1 w') ∧ w'.cell? ⟨w.heap.size, 0, none⟩ = some (.int .i64 s) ∧ w'.cell? ⟨w.heap.size, 1, none⟩ = some (.int .i64 g) ∧ w'.cell? ⟨w.heap.size, 2, none⟩ = some (.int .i64 h)) := by
      intro wx hbx
      refine (modof_any _ _ _ _ _ wx (k.below hbx) hn (by omega)).mono ?_
      rintro e w' ⟨ha, hl, hc, hs, rfl, hN, hI, hb⟩
      have hb' := hbx.trans (hb.mono hbx.size)
      exact ⟨ha, hl, hc, rfl, ⟨hs, hN, hI, hb'⟩, bkeep hb' c0 rfl, bkeep hb' c1 rfl, bkeep hb' c2 rfl⟩
    have HEn : Hid (∀ wx ha hl hc, (∃ hs, Nums wx ha hl hc hs ∧ IsN hs (hlf (nv ns)) ∧ Below w1.heap.size w1 wx) → Calls Tryz.prog 20 #[.agg #[.slice a la ca, .slice ha hl hc], .agg #[.int .i64 s, .int .i64 g, .int .i64 h]] wx fun e w' => ∃ ra rl rc err, e = .returned (.tuple #[.slice ra rl rc, .int .i64 err]) ∧ Hid (∃ rs, Nums w' ra rl rc rs ∧ Told (pkF ns s g h) v rs err ∧ Below w.heap.size w w')) := by
      rintro wx ha hl hc ⟨hs, hN, hI, hbx⟩
      refine (mpack_any _ _ _ _ _ _ ns hs s g h wx (k.below hbx) hN hm hI hg hh).mono ?_
      rintro e w' ⟨ra, rl, rc, rs, err, rfl, hR, hT, hb⟩
      rw [← hv] at hT
      have hb' := hbx.trans (hb.mono hbx.size)
      exact ⟨ra, rl, rc, err, rfl, ⟨rs, hR, hT, hB1.trans (hb'.mono hB1.size)⟩⟩
    clear k hn hv hB1
    go_wp2_with fail
    go_region_with (first
      | (go_at_call 40; refine (HMo.out _ ?_).mono ?_; (exact ⟨rfl, rfl, rfl, Nat.le_refl _, fun _ _ => rfl⟩); rintro e w3 ⟨ha, hl, hc, rfl, hH, k0, k1, k2⟩)
      | (go_at_call 20; refine (HEn.out _ _ _ _ ?_).mono ?_; (obtain ⟨hs, g1, g2, g3⟩ := hH.out; exact ⟨hs, g1.alike (fun _ => rfl), g2, g3.os, g3.tape, g3.output, g3.size, g3.block⟩); rintro e w4 ⟨ra, rl, rc, err, rfl, hR⟩))
    all_goals
      clear HMo HEn hH
      go_wp2_with fail
      go_ret2
      obtain ⟨rs, g1, g2, g3⟩ := hR.out
      exact ⟨ra, rl, rc, rs, err, rfl, g1.alike (fun _ => rfl), g2, g3.os, g3.tape, g3.output, g3.size, g3.block⟩

set_option maxRecDepth 20000 in
set_option maxHeartbeats 800000 in
theorem pk_ok7 : PkOk := by
  intro a la ca ns s g h w hN _ hg hh
  obtain ⟨v, hv⟩ : ∃ v, v = codV (nv ns) (pkX s g h) := ⟨_, rfl⟩
  have HB := (show Hid _ from askP_any _ _ _ _ s g h w hN hg hh)
  rw [← hv] at HB
  rw [← hv]
  clear hN hv hg hh
  go_enter Tryz.func7, Tryz.ntmps7
  go_wp2_with fail
  refine Calls.mono HB.out ?_
  rintro e w2 ⟨ra, rl, rc, rs, err, rfl, hR, hT, hb2⟩
  have HT : Hid (Told (pkF ns s g h) v rs err) := hT
  clear HB hT
  go_wp2
  go_ret2
  exact ⟨ra, rl, rc, rs, err, rfl, hR, HT.out, hb2⟩
end Go.Proofs.YtambpcgdaogojabGreat

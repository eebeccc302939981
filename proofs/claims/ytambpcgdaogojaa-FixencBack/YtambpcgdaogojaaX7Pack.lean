/-
  Contracts of package fixenc's isShift, step and joined.
-/
import Derived.Test.YtambpcgdaogojaaX7Mod
import Derived.Test.YtambpcgdaogojaaModB
import Derived.Test.YtambpcgdaogojaaDivOf
import Derived.Deep.RegionWith
import Derived.Deep.RegionHeld3
import Derived.BigRegion
namespace Go.Proofs.Ytambpcgdaogojaa
open Go.RowKit

set_option maxHeartbeats 400000 in
theorem isshift_any (s : Int) (w : World) : Calls Try.prog 66 #[.int .i64 s] w fun e w' => e = .returned (.bool (shB s)) ∧ w' = w := by
  by_cases h1 : 1 ≤ s
  · have e : shB s = decide (s ≤ 62) := by unfold shB; rw [decide_eq_true h1, Bool.true_and]
    have HE : Hid (shB s = decide (s ≤ 62)) := e
    clear e
    go_enter Try.func66, Try.ntmps66
    go_wp2
    go_ret
    exact ⟨ret_bool HE.out.symm, rfl⟩
  · have HE : Hid (shB s = false) := by show _ = _; unfold shB; rw [decide_eq_false h1, Bool.false_and]
    have d1 : decide (1 ≤ s) = false := decide_eq_false h1
    clear h1
    go_enter Try.func66, Try.ntmps66
    go_wp2
    go_ret
    exact ⟨ret_bool HE.out.symm, rfl⟩

set_option maxHeartbeats 400000 in
theorem fstep_any (s : Int) (w : World) (hs : 0 ≤ s ∧ s ≤ 62) : Calls Try.prog 67 #[.int .i64 s] w fun e w' => e = .returned (.int .i64 (2 ^ s.toNat)) ∧ w' = w := by
  obtain ⟨n, rfl⟩ := Int.eq_ofNat_of_zero_le hs.1
  have hn : n ≤ 62 := by omega
  have h2 := pow62 hs
  rw [Int.toNat_natCast] at h2
  have HW : Hid (RowKit.wrap64 (2 ^ n) = 2 ^ n) := by show _ = _; unfold RowKit.wrap64; omega
  rw [Int.toNat_natCast]
  clear h2
  go_enter Try.func67, Try.ntmps67
  go_wp2
  go_ret
  refine ⟨?_, rfl⟩
  rw [HW.out]
  rfl

/-- A whole number's sign and limbs, as a call handed them back. -/
def WAt (w : World) (n : Bool) (a : Option Addr) (l c : Nat) (x : Int) : Prop := ∃ xs, Nums w a l c xs ∧ IsW n xs x
theorem WAt.below {w w' : World} {n : Bool} {a : Option Addr} {l c : Nat} {x : Int} (h : WAt w n a l c x) (hb : Below w.heap.size w w') : WAt w' n a l c x := by
  obtain ⟨xs, h1, h2⟩ := h
  exact ⟨xs, h1.below hb, h2⟩
theorem WAt.drew {w : World} {n : Bool} {a : Option Addr} {l c : Nat} {x : Int} (h : WAt w n a l c x) : WAt w.drew n a l c x := by
  obtain ⟨xs, h1, h2⟩ := h
  exact ⟨xs, h1.drawD, h2⟩
theorem WAt.grow {w : World} {n : Bool} {a : Option Addr} {l c : Nat} {x : Int} (h : WAt w n a l c x) (o : Obj) : WAt (w.alloc o) n a l c x := by
  obtain ⟨xs, h1, h2⟩ := h
  exact ⟨xs, h1.growD o, h2⟩

set_option maxRecDepth 20000 in
set_option maxHeartbeats 20000000 in
theorem joined_any (s g h : Int) (w : World) (hs0 : 0 ≤ s ∧ s ≤ 62) (hg : -9223372036854775808 ≤ g ∧ g < 9223372036854775808) (hh : -9223372036854775808 ≤ h ∧ h < 9223372036854775808) :
    Calls Try.prog 68 #[.agg #[.int .i64 s, .int .i64 g, .int .i64 h]] w fun e w' => TellsW (pkX s g h) w e w' := by
  obtain ⟨X, hX⟩ : ∃ X, X = pkX s g h := ⟨_, rfl⟩
  rw [← hX]
  obtain ⟨P, hP⟩ : ∃ P : Int, P = 2 ^ s.toNat := ⟨_, rfl⟩
  have hP1 := pow62 hs0
  rw [← hP] at hP1
  have HX : Hid (X = g * P + h) := by show _ = _; rw [hX, hP]; rfl
  have hPr : -9223372036854775808 ≤ P ∧ P < 9223372036854775808 := by omega
  have HSt : Hid (∀ wx, Calls Try.prog 67 #[.int .i64 s] wx fun e w' => e = .returned (.int .i64 P) ∧ wx = w') := fun wx => by
    rw [hP]
    exact (fstep_any s wx hs0).mono (fun e w' h => ⟨h.1, h.2.symm⟩)
  have hab := prod_abs (x := g) (y := P) (a := 9223372036854775808) (b := 4611686018427387904) (by omega) (by omega) (by decide)
  have hbig : (9223372036854775808 : Int) * 4611686018427387904 + 9223372036854775808 < 18446744073709551616 ^ 64 := by decide
  have HM1 : Hid (((g * P).natAbs : Int) < 18446744073709551616 ^ 64) := by show _ < _; omega
  have HM2 : Hid (((g * P + h).natAbs : Int) < 18446744073709551616 ^ 64) := by show _ < _; omega
  have hV := ((Below.refl w.heap.size w).alloc (Nat.le_refl _) (.cells #[.int .i64 s, .int .i64 g, .int .i64 h] 70)).alloc (by simp) (.cells #[.bool false, .slice none 0 0] 25)
  have c0 : ((w.alloc (.cells #[.int .i64 s, .int .i64 g, .int .i64 h] 70)).alloc (.cells #[.bool false, .slice none 0 0] 25)).cell? ⟨w.heap.size, 0, none⟩ = some (.int .i64 s) := by rw [World.cell?_alloc_lt _ _ _ (by simp)]; simp
  have c1 : ((w.alloc (.cells #[.int .i64 s, .int .i64 g, .int .i64 h] 70)).alloc (.cells #[.bool false, .slice none 0 0] 25)).cell? ⟨w.heap.size, 1, none⟩ = some (.int .i64 g) := by rw [World.cell?_alloc_lt _ _ _ (by simp)]; simp
  have c2 : ((w.alloc (.cells #[.int .i64 s, .int .i64 g, .int .i64 h] 70)).alloc (.cells #[.bool false, .slice none 0 0] 25)).cell? ⟨w.heap.size, 2, none⟩ = some (.int .i64 h) := by rw [World.cell?_alloc_lt _ _ _ (by simp)]; simp
  have d0 : ((w.alloc (.cells #[.int .i64 s, .int .i64 g, .int .i64 h] 70)).alloc (.cells #[.bool false, .slice none 0 0] 25)).cell? ⟨w.heap.size + 1, 0, none⟩ = some (.bool false) := by
    rw [show w.heap.size + 1 = (w.alloc (.cells #[.int .i64 s, .int .i64 g, .int .i64 h] 70)).heap.size by simp, World.cell?_alloc_new]; rfl
  have d1 : ((w.alloc (.cells #[.int .i64 s, .int .i64 g, .int .i64 h] 70)).alloc (.cells #[.bool false, .slice none 0 0] 25)).cell? ⟨w.heap.size + 1, 1, none⟩ = some (.slice none 0 0) := by
    rw [show w.heap.size + 1 = (w.alloc (.cells #[.int .i64 s, .int .i64 g, .int .i64 h] 70)).heap.size by simp, World.cell?_alloc_new]; rfl
  have f0 : ((w.alloc (.cells #[.int .i64 s, .int .i64 g, .int .i64 h] 70)).alloc (.cells #[.bool false, .slice none 0 0] 25)).frozen? ⟨w.heap.size + 1, 0, none⟩ = false := by
    rw [show w.heap.size + 1 = (w.alloc (.cells #[.int .i64 s, .int .i64 g, .int .i64 h] 70)).heap.size by simp]; exact World.frozen?_alloc_new _ _ _ _
  have f1 : ((w.alloc (.cells #[.int .i64 s, .int .i64 g, .int .i64 h] 70)).alloc (.cells #[.bool false, .slice none 0 0] 25)).frozen? ⟨w.heap.size + 1, 1, none⟩ = false := by
    rw [show w.heap.size + 1 = (w.alloc (.cells #[.int .i64 s, .int .i64 g, .int .i64 h] 70)).heap.size by simp]; exact World.frozen?_alloc_new _ _ _ _
  clear hX hP hs0 hab hbig hP1
  go_enter Try.func68, Try.ntmps68
  go_wp2_with fail
  generalize (w.alloc (.cells #[.int .i64 s, .int .i64 g, .int .i64 h] 70)).alloc (.cells #[.bool false, .slice none 0 0] 25) = V at *
  have hGV : w.heap.size < V.heap.size := World.block_lt_of_cell? _ _ c0
  have hRV : w.heap.size + 1 < V.heap.size := World.block_lt_of_cell? _ _ d0
  obtain ⟨G, hG⟩ : ∃ G, G = w.heap.size := ⟨_, rfl⟩
  rw [← hG] at c0 c1 c2 d0 d1 f0 f1 hGV hRV
  rw [← hG]
  have HRB : Hid (Below V.heap.size V V) := Below.refl _ _
  have HOg : Hid (∀ wx : World, Below V.heap.size V wx → Calls Try.prog 90 #[.int .i64 g] wx fun e w' => ∃ n a l c, e = .returned (.agg #[.bool n, .slice a l c]) ∧ Hid (WAt w' n a l c g ∧ Below V.heap.size V w') ∧ (w'.cell? ⟨G, 0, none⟩ = some (.int .i64 s) ∧ w'.cell? ⟨G, 1, none⟩ = some (.int .i64 g) ∧ G < w'.heap.size) ∧ (∀ b o, b < wx.heap.size → w'.cell? ⟨b, o, none⟩ = wx.cell? ⟨b, o, none⟩) ∧ (∀ b o, b < wx.heap.size → w'.frozen? ⟨b, o, none⟩ = wx.frozen? ⟨b, o, none⟩) ∧ (∀ b, b < wx.heap.size → b < w'.heap.size)) := by
    intro wx hbx
    refine (iof_any g wx hg).mono ?_
    rintro e w' ⟨a', n', c', rfl, hn, hb⟩
    have hb' := hbx.trans (hb.mono hbx.size)
    exact ⟨_, _, _, _, rfl, ⟨⟨_, hn, IsW.of hg⟩, hb'⟩, ⟨bkeep hb' c0 rfl, bkeep hb' c1 rfl, Nat.lt_of_lt_of_le hGV hb'.size⟩, bfactsD hb⟩
  have HOp : Hid (∀ wx : World, Below V.heap.size V wx → Calls Try.prog 90 #[.int .i64 P] wx fun e w' => ∃ n a l c, e = .returned (.agg #[.bool n, .slice a l c]) ∧ Hid (WAt w' n a l c P ∧ Below V.heap.size V w' ∧ ∀ n a l c, WAt wx n a l c g → WAt w' n a l c g) ∧ (w'.cell? ⟨G, 0, none⟩ = some (.int .i64 s) ∧ w'.cell? ⟨G, 1, none⟩ = some (.int .i64 g) ∧ G < w'.heap.size) ∧ (∀ b o, b < wx.heap.size → w'.cell? ⟨b, o, none⟩ = wx.cell? ⟨b, o, none⟩) ∧ (∀ b o, b < wx.heap.size → w'.frozen? ⟨b, o, none⟩ = wx.frozen? ⟨b, o, none⟩) ∧ (∀ b, b < wx.heap.size → b < w'.heap.size)) := by
    intro wx hbx
    refine (iof_any P wx hPr).mono ?_
    rintro e w' ⟨a', n', c', rfl, hn, hb⟩
    have hb' := hbx.trans (hb.mono hbx.size)
    exact ⟨_, _, _, _, rfl, ⟨⟨_, hn, IsW.of hPr⟩, hb', fun _ _ _ _ hk => hk.below hb⟩, ⟨bkeep hb' c0 rfl, bkeep hb' c1 rfl, Nat.lt_of_lt_of_le hGV hb'.size⟩, bfactsD hb⟩
  have HMu : Hid (∀ (wx : World) gn ga gl gc pn pa pl pc, WAt wx gn ga gl gc g → WAt wx pn pa pl pc P → Below V.heap.size V wx → Calls Try.prog 89 #[.agg #[.bool gn, .slice ga gl gc], .agg #[.bool pn, .slice pa pl pc]] wx fun e w' => ∃ n a l c, e = .returned (.tuple #[.agg #[.bool n, .slice a l c], .int .i64 0]) ∧ Hid (WAt w' n a l c (g * P) ∧ Below V.heap.size V w') ∧ (w'.cell? ⟨G, 0, none⟩ = some (.int .i64 s) ∧ w'.cell? ⟨G, 1, none⟩ = some (.int .i64 g) ∧ G < w'.heap.size) ∧ (∀ b o, b < wx.heap.size → w'.cell? ⟨b, o, none⟩ = wx.cell? ⟨b, o, none⟩) ∧ (∀ b o, b < wx.heap.size → w'.frozen? ⟨b, o, none⟩ = wx.frozen? ⟨b, o, none⟩) ∧ (∀ b, b < wx.heap.size → b < w'.heap.size)) := by
    rintro wx gn ga gl gc pn pa pl pc ⟨gs, hgn, hgW⟩ ⟨ps, hpn, hpW⟩ hbx
    refine (imul_any gn pn _ _ _ _ _ _ _ _ wx hgn hpn).mono ?_
    rintro e w' ⟨q, a', n', c', ls, err, rfl, hn, hR, hb⟩
    have hb' := hbx.trans (hb.mono hbx.size)
    have := hR.got hgW.2.1 hpW.2.1
    rw [hgW.2.2, hpW.2.2] at this
    obtain ⟨h3, rfl⟩ := IsW.res this HM1.out
    exact ⟨_, _, _, _, rfl, ⟨⟨_, hn, h3⟩, hb'⟩, ⟨bkeep hb' c0 rfl, bkeep hb' c1 rfl, Nat.lt_of_lt_of_le hGV hb'.size⟩, bfactsD hb⟩
  go_cut [3] (fun pv wx => ∃ g3, pv = .pointer (some ⟨g3, 0, none⟩) ∧ Fac wx g3 (g * P) ∧ V.heap.size ≤ g3 ∧ Below V.heap.size V wx)
  case first =>
    clear HM1 HM2 HX hV c2 d0 d1 f0 f1 hG hg hh hPr hRV
    have ne0 := World.new_ne V ⟨G, 0, none⟩ c0
    go_region_held3 (fun w' => w'.cell? ⟨G, 0, none⟩ = some (.int .i64 s) ∧ w'.cell? ⟨G, 1, none⟩ = some (.int .i64 g)) (first | go_keep | exact ⟨o0, o1⟩ | exact ⟨n0, n1⟩ | exact ⟨(put2_other (by omega) _ _).trans o0, (put2_other (by omega) _ _).trans o1⟩)
      (first
      | (go_at_call 90; with_reducible refine Calls.mono (HOg.out _ ?_) ?_; (focus (repeat (first | exact HRB.out | refine bdrawD ?_ | refine bgrowD ?_ _))); rintro e w3 ⟨gn, ga, gl, gc, rfl, hA, ⟨n0, n1, n2⟩, hc3, hf3, hs3⟩; have ne3 := World.new_ne w3 ⟨G, 0, none⟩ n0; (try have k30 := hs3 (V.heap.size) (by first | omega | (simp; done) | (simp; omega))); (try have m300 := hc3 (V.heap.size) 0 (by first | omega | (simp; done) | (simp; omega))); (try have f300 := hf3 (V.heap.size) 0 (by first | omega | (simp; done) | (simp; omega))); (try have m301 := hc3 (V.heap.size) 1 (by first | omega | (simp; done) | (simp; omega))); (try have f301 := hf3 (V.heap.size) 1 (by first | omega | (simp; done) | (simp; omega))); clear hc3 hf3 hs3)
      | (go_at_call 67; refine (HSt.out _).mono ?_; rintro e w4 ⟨rfl, rfl⟩)
      | (go_at_call 90; with_reducible refine Calls.mono (HOp.out _ ?_) ?_; (focus (repeat (first | exact hA.out.2 | refine bdrawD ?_ | refine bgrowD ?_ _))); rintro e w5 ⟨pn, pa, pl, pc, rfl, hB, ⟨p0, p1, p2⟩, hc5, hf5, hs5⟩; have ne5 := World.new_ne w5 ⟨G, 0, none⟩ p0; have hA5 := hB.out.2.2 gn ga gl gc (by (focus (repeat (first | exact hA.out.1 | refine WAt.drew ?_ | refine WAt.grow ?_ _)))); (try have k50 := hs5 (V.heap.size) (by first | omega | (simp; done) | (simp; omega))); (try have m500 := hc5 (V.heap.size) 0 (by first | omega | (simp; done) | (simp; omega))); (try have f500 := hf5 (V.heap.size) 0 (by first | omega | (simp; done) | (simp; omega))); (try have m501 := hc5 (V.heap.size) 1 (by first | omega | (simp; done) | (simp; omega))); (try have f501 := hf5 (V.heap.size) 1 (by first | omega | (simp; done) | (simp; omega))); (try have k51 := hs5 (w3.heap.size) (by first | omega | (simp; done) | (simp; omega))); (try have m510 := hc5 (w3.heap.size) 0 (by first | omega | (simp; done) | (simp; omega))); (try have f510 := hf5 (w3.heap.size) 0 (by first | omega | (simp; done) | (simp; omega))); (try have m511 := hc5 (w3.heap.size) 1 (by first | omega | (simp; done) | (simp; omega))); (try have f511 := hf5 (w3.heap.size) 1 (by first | omega | (simp; done) | (simp; omega))); clear hc5 hf5 hs5)
      | (go_at_call 89; with_reducible refine Calls.mono (HMu.out _ gn ga gl gc pn pa pl pc ?_ ?_ ?_) ?_; (focus (repeat (first | exact hA5 | refine WAt.drew ?_ | refine WAt.grow ?_ _))); (focus (repeat (first | exact hB.out.1 | refine WAt.drew ?_ | refine WAt.grow ?_ _))); (focus (repeat (first | exact hB.out.2.1 | refine bdrawD ?_ | refine bgrowD ?_ _))); rintro e w6 ⟨mp, ma, mn, mc, rfl, hM, ⟨o0, o1, o2⟩, hc6, hf6, hs6⟩; have ne6 := World.new_ne w6 ⟨G, 0, none⟩ o0; (try have k60 := hs6 (V.heap.size) (by first | omega | (simp; done) | (simp; omega))); (try have m600 := hc6 (V.heap.size) 0 (by first | omega | (simp; done) | (simp; omega))); (try have f600 := hf6 (V.heap.size) 0 (by first | omega | (simp; done) | (simp; omega))); (try have m601 := hc6 (V.heap.size) 1 (by first | omega | (simp; done) | (simp; omega))); (try have f601 := hf6 (V.heap.size) 1 (by first | omega | (simp; done) | (simp; omega))); (try have k61 := hs6 (w3.heap.size) (by first | omega | (simp; done) | (simp; omega))); (try have m610 := hc6 (w3.heap.size) 0 (by first | omega | (simp; done) | (simp; omega))); (try have f610 := hf6 (w3.heap.size) 0 (by first | omega | (simp; done) | (simp; omega))); (try have m611 := hc6 (w3.heap.size) 1 (by first | omega | (simp; done) | (simp; omega))); (try have f611 := hf6 (w3.heap.size) 1 (by first | omega | (simp; done) | (simp; omega))); (try have k62 := hs6 (w5.heap.size) (by first | omega | (simp; done) | (simp; omega))); (try have m620 := hc6 (w5.heap.size) 0 (by first | omega | (simp; done) | (simp; omega))); (try have f620 := hf6 (w5.heap.size) 0 (by first | omega | (simp; done) | (simp; omega))); (try have m621 := hc6 (w5.heap.size) 1 (by first | omega | (simp; done) | (simp; omega))); (try have f621 := hf6 (w5.heap.size) 1 (by first | omega | (simp; done) | (simp; omega))); clear hc6 hf6 hs6))
    all_goals
      have hz6 := hM.out.2.size
      have hz5 := hB.out.2.1.size
      have hz3 := hA.out.2.size
      clear HOg HOp HMu HSt HRB hA5
      go_wp2_with fail
      go_meet
      case rel =>
        obtain ⟨⟨ms, hMs, hMW⟩, hbM⟩ := hM.out
        first
          | exact ⟨_, rfl, fac_alloc hMs hMW.2.1 hMW.2.2, hz6, bgrowD hbM _⟩
          | (refine ⟨_, rfl, fac_put (q := false) (sa := none) (sn := 0) (sc := 0) ?_ ?_ ?_ ?_ hMs hMW.2.1 hMW.2.2, ?_, (hbM.setCell ?_ _).setCell ?_ _⟩
             · go_simp
             · go_simp
             · go_simp
             · go_simp
             · first | omega | (simp; done) | (simp; omega)
             · first | (simp; done) | (simp; omega)
             · first | (simp; done) | (simp; omega))
  case rest =>
    obtain ⟨g3, rfl, F3, hg3, hbc⟩ := hcut
    obtain ⟨W, hW⟩ : ∃ W, W = wc := ⟨_, rfl⟩
    subst hW
    have hBW := hV.trans (hbc.mono hV.size)
    replace c2 := bkeep hbc c2 rfl
    replace d0 := bkeep hbc d0 rfl
    replace d1 := bkeep hbc d1 rfl
    replace f0 := ((bcell hbc).2 _ 0 hRV).trans f0
    replace f1 := ((bcell hbc).2 _ 1 hRV).trans f1
    have hGW : G < W.heap.size := Nat.lt_of_lt_of_le hGV hbc.size
    have hRW : G + 1 < W.heap.size := Nat.lt_of_lt_of_le hRV hbc.size
    have hne : G ≠ g3 := by omega
    clear HOg HOp HMu HSt HRB HM1 c0 c1 hV hbc hGV hRV hg hPr
    obtain ⟨xp, xa, xn, xc, xs, ⟨e0, e1⟩, -, hXn, hXr, hXv⟩ := F3
    have hXW : IsW xp xs (g * P) := ⟨hXn.digs, hXr, hXv⟩
    have hgW : g3 < W.heap.size := World.block_lt_of_cell? _ _ e0
    have HRB : Hid (Below W.heap.size W W) := Below.refl _ _
    have HOh : Hid (∀ wx : World, Below W.heap.size W wx → Calls Try.prog 90 #[.int .i64 h] wx fun e w' => ∃ n a l c, e = .returned (.agg #[.bool n, .slice a l c]) ∧ Hid (WAt w' n a l c h ∧ Below W.heap.size W w') ∧ (w'.cell? ⟨G, 2, none⟩ = some (.int .i64 h) ∧ (w'.cell? ⟨g3, 0, none⟩ = some (.bool xp) ∧ w'.cell? ⟨g3, 1, none⟩ = some (.slice xa xn xc)) ∧ G < w'.heap.size ∧ g3 < w'.heap.size) ∧ (∀ b o, b < wx.heap.size → w'.cell? ⟨b, o, none⟩ = wx.cell? ⟨b, o, none⟩) ∧ (∀ b o, b < wx.heap.size → w'.frozen? ⟨b, o, none⟩ = wx.frozen? ⟨b, o, none⟩) ∧ (∀ b, b < wx.heap.size → b < w'.heap.size)) := by
      intro wx hbx
      refine (iof_any h wx hh).mono ?_
      rintro e w' ⟨a', n', c', rfl, hn, hb⟩
      have hb' := hbx.trans (hb.mono hbx.size)
      exact ⟨_, _, _, _, rfl, ⟨⟨_, hn, IsW.of hh⟩, hb'⟩, ⟨bkeep hb' c2 rfl, ⟨bkeep hb' e0 rfl, bkeep hb' e1 rfl⟩, Nat.lt_of_lt_of_le hGW hb'.size, Nat.lt_of_lt_of_le hgW hb'.size⟩, bfactsD hb⟩
    have HAd : Hid (∀ (wx : World) pn pa pl pc, WAt wx pn pa pl pc h → Below W.heap.size W wx → Calls Try.prog 91 #[.agg #[.bool xp, .slice xa xn xc], .agg #[.bool pn, .slice pa pl pc]] wx fun e w' => ∃ n a l c, e = .returned (.tuple #[.agg #[.bool n, .slice a l c], .int .i64 0]) ∧ Hid (WAt w' n a l c X ∧ Below W.heap.size W w') ∧ (w'.cell? ⟨G, 2, none⟩ = some (.int .i64 h) ∧ (w'.cell? ⟨g3, 0, none⟩ = some (.bool xp) ∧ w'.cell? ⟨g3, 1, none⟩ = some (.slice xa xn xc)) ∧ G < w'.heap.size ∧ g3 < w'.heap.size) ∧ (∀ b o, b < wx.heap.size → w'.cell? ⟨b, o, none⟩ = wx.cell? ⟨b, o, none⟩) ∧ (∀ b o, b < wx.heap.size → w'.frozen? ⟨b, o, none⟩ = wx.frozen? ⟨b, o, none⟩) ∧ (∀ b, b < wx.heap.size → b < w'.heap.size)) := by
      rintro wx pn pa pl pc ⟨ps, hpn, hpW⟩ hbx
      refine (iadd_any xp pn _ _ _ _ _ _ _ _ wx (hXn.below hbx) hpn).mono ?_
      rintro e w' ⟨q, a', n', c', ls, err, rfl, hn, hR, hb⟩
      have hb' := hbx.trans (hb.mono hbx.size)
      have := hR.got hXW.2.1 hpW.2.1
      rw [hXW.2.2, hpW.2.2] at this
      obtain ⟨h3, rfl⟩ := IsW.res this HM2.out
      rw [← HX.out] at h3
      exact ⟨_, _, _, _, rfl, ⟨⟨_, hn, h3⟩, hb'⟩, ⟨bkeep hb' c2 rfl, ⟨bkeep hb' e0 rfl, bkeep hb' e1 rfl⟩, Nat.lt_of_lt_of_le hGW hb'.size, Nat.lt_of_lt_of_le hgW hb'.size⟩, bfactsD hb⟩
    go_wp2_with fail
    go_cut [5] (fun pv wx => ∃ g5, pv = .pointer (some ⟨g5, 0, none⟩) ∧ Fac wx g5 X ∧ W.heap.size ≤ g5 ∧ Below W.heap.size W wx)
    case first =>
      clear HM2 HX d0 d1 f0 f1 hG hh hXn hXr hXv hXW hBW hRW hg3
      have ne0 := World.new_ne W ⟨G, 2, none⟩ c2
      have ne1 := World.new_ne W ⟨g3, 0, none⟩ e0
      go_region_held3 (fun w' => w'.cell? ⟨G, 2, none⟩ = some (.int .i64 h) ∧ w'.cell? ⟨g3, 0, none⟩ = some (.bool xp) ∧ w'.cell? ⟨g3, 1, none⟩ = some (.slice xa xn xc)) (first | go_keep | exact ⟨o0, o1⟩ | exact ⟨n0, n1⟩ | exact ⟨(put2_other (by omega) _ _).trans o0, (put2_other (by omega) _ _).trans o1.1, (put2_other (by omega) _ _).trans o1.2⟩)
        (first
        | (go_at_call 90; with_reducible refine Calls.mono (HOh.out _ ?_) ?_; (focus (repeat (first | exact HRB.out | refine bdrawD ?_ | refine bgrowD ?_ _))); rintro e w3 ⟨pn, pa, pl, pc, rfl, hA, ⟨n0, n1, n2, n3⟩, hc3, hf3, hs3⟩; have ne3 := World.new_ne w3 ⟨G, 2, none⟩ n0; have ne4 := World.new_ne w3 ⟨g3, 0, none⟩ n1.1; (try have k30 := hs3 (W.heap.size) (by first | omega | (simp; done) | (simp; omega))); (try have m300 := hc3 (W.heap.size) 0 (by first | omega | (simp; done) | (simp; omega))); (try have f300 := hf3 (W.heap.size) 0 (by first | omega | (simp; done) | (simp; omega))); (try have m301 := hc3 (W.heap.size) 1 (by first | omega | (simp; done) | (simp; omega))); (try have f301 := hf3 (W.heap.size) 1 (by first | omega | (simp; done) | (simp; omega))); clear hc3 hf3 hs3)
        | (go_at_call 91; with_reducible refine Calls.mono (HAd.out _ pn pa pl pc ?_ ?_) ?_; (focus (repeat (first | exact hA.out.1 | refine WAt.drew ?_ | refine WAt.grow ?_ _))); (focus (repeat (first | exact hA.out.2 | refine bdrawD ?_ | refine bgrowD ?_ _))); rintro e w6 ⟨mp, ma, mn, mc, rfl, hM, ⟨o0, o1, o2, o3⟩, hc6, hf6, hs6⟩; have ne6 := World.new_ne w6 ⟨G, 2, none⟩ o0; have ne7 := World.new_ne w6 ⟨g3, 0, none⟩ o1.1; (try have k60 := hs6 (W.heap.size) (by first | omega | (simp; done) | (simp; omega))); (try have m600 := hc6 (W.heap.size) 0 (by first | omega | (simp; done) | (simp; omega))); (try have f600 := hf6 (W.heap.size) 0 (by first | omega | (simp; done) | (simp; omega))); (try have m601 := hc6 (W.heap.size) 1 (by first | omega | (simp; done) | (simp; omega))); (try have f601 := hf6 (W.heap.size) 1 (by first | omega | (simp; done) | (simp; omega))); (try have k61 := hs6 (w3.heap.size) (by first | omega | (simp; done) | (simp; omega))); (try have m610 := hc6 (w3.heap.size) 0 (by first | omega | (simp; done) | (simp; omega))); (try have f610 := hf6 (w3.heap.size) 0 (by first | omega | (simp; done) | (simp; omega))); (try have m611 := hc6 (w3.heap.size) 1 (by first | omega | (simp; done) | (simp; omega))); (try have f611 := hf6 (w3.heap.size) 1 (by first | omega | (simp; done) | (simp; omega))); clear hc6 hf6 hs6))
      all_goals
        have hz6 := hM.out.2.size
        have hz3 := hA.out.2.size
        clear HOh HAd HRB
        go_wp2_with fail
        go_meet
        case rel =>
          obtain ⟨⟨ms, hMs, hMW⟩, hbM⟩ := hM.out
          first
            | exact ⟨_, rfl, fac_alloc hMs hMW.2.1 hMW.2.2, hz6, bgrowD hbM _⟩
            | (refine ⟨_, rfl, fac_put (q := false) (sa := none) (sn := 0) (sc := 0) ?_ ?_ ?_ ?_ hMs hMW.2.1 hMW.2.2, ?_, (hbM.setCell ?_ _).setCell ?_ _⟩
               · go_simp
               · go_simp
               · go_simp
               · go_simp
               · first | omega | (simp; done) | (simp; omega)
               · first | (simp; done) | (simp; omega)
               · first | (simp; done) | (simp; omega))
    case rest =>
      obtain ⟨g5, rfl, F5, hg5, hbc⟩ := hcut
      have hB5 := hBW.trans (hbc.mono hBW.size)
      replace d0 := bkeep hbc d0 rfl
      replace d1 := bkeep hbc d1 rfl
      replace f0 := ((bcell hbc).2 _ 0 hRW).trans f0
      replace f1 := ((bcell hbc).2 _ 1 hRW).trans f1
      clear HOh HAd HRB HM2 HX c2 e0 e1 hXn hXr hXv hXW hbc hBW hGW hgW hh
      obtain ⟨zp, za, zn, zc, zs, ⟨e0, e1⟩, -, hZn, hZr, hZv⟩ := F5
      have HZ : Hid (IsW zp zs X) := ⟨hZn.digs, hZr, hZv⟩
      have hn2 := hZn.put2 d0 d1 (.bool zp) (.slice za zn zc)
      have hBB := (hB5.setCell (p := ⟨G + 1, 0, none⟩) (by rw [hG]; exact Nat.le_succ _) (.bool zp)).setCell (p := ⟨G + 1, 1, none⟩) (by rw [hG]; exact Nat.le_succ _) (.slice za zn zc)
      clear hZn hZr hZv hB5 hG
      go_wp2_with fail
      exact bodyPost_ret (v := .agg #[.bool zp, .slice za zn zc]) (by simp [results, Try.results68, go_sem, d0, d1]) rfl ⟨zp, za, zn, zc, zs, rfl, hn2, HZ.out, hBB⟩
end Go.Proofs.Ytambpcgdaogojaa

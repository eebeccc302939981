/-
  Contracts of package fixenc's parted, unpack and Unpack.
  Contracts of package fixenc's unpack and Unpack.
-/
import Derived.Test.YtambpcgdaogojabGreatX7P
import Derived.Test.YtambpcgdaogojabGreatRef7U
import Derived.Test.YtambpcgdaogojabGreatModB
namespace Go.Proofs.YtambpcgdaogojabGreat
open Go.RowKit

/-- What a call that tells a pair or a fault makes. -/
def PairP7 (f : Option Int) (g h : Int) (w : World) (e : Ending) (w' : World) : Prop := ∃ x y err, e = .returned (.tuple #[.agg #[.int .i64 x, .int .i64 y], .int .i64 err]) ∧ Told2 f g h x y err ∧ Below w.heap.size w w'

theorem put2_ints {w : World} {g : Nat} {p q : Value} (c0 : w.cell? ⟨g, 0, none⟩ = some p) (c1 : w.cell? ⟨g, 1, none⟩ = some q) (x y : Value) :
    ((w.setCell ⟨g, 0, none⟩ x).setCell ⟨g, 1, none⟩ y).cell? ⟨g, 0, none⟩ = some x ∧ ((w.setCell ⟨g, 0, none⟩ x).setCell ⟨g, 1, none⟩ y).cell? ⟨g, 1, none⟩ = some y := put2_here c0 c1 x y

set_option maxRecDepth 20000 in
set_option maxHeartbeats 20000000 in
theorem fparted_any (xn : Bool) (xa : Option Addr) (xl xc : Nat) (xs : List Int) (x s : Int) (w : World) (hs0 : 0 ≤ s ∧ s ≤ 62) (hX : Nums w xa xl xc xs) (hxW : IsW xn xs x) (hxb : (x.natAbs : Int) < 18446744073709551616 ^ 63) :
    Calls Tryz.prog 65 #[.agg #[.bool xn, .slice xa xl xc], .int .i64 s] w fun e w' => PairP7 (if fitB (x / 2 ^ s.toNat) then none else some 12) (x / 2 ^ s.toNat) (x % 2 ^ s.toNat) w e w' := by
  obtain ⟨P, hP⟩ : ∃ P : Int, P = 2 ^ s.toNat := ⟨_, rfl⟩
  have hP1 := pow62 hs0
  rw [← hP] at hP1
  rw [← hP]
  obtain ⟨f, hf⟩ : ∃ f, f = (if fitB (x / P) then (none : Option Int) else some 12) := ⟨_, rfl⟩
  rw [← hf]
  have HFe : Hid (f = (if fitB (x / P) then (none : Option Int) else some 12)) := hf
  clear hf
  have hPr : -9223372036854775808 ≤ P ∧ P < 9223372036854775808 := by omega
  have HSt : Hid (∀ wx, Calls Tryz.prog 46 #[.int .i64 s] wx fun e w' => e = .returned (.int .i64 P) ∧ wx = w') := fun wx => by
    rw [hP]
    exact (fstep_any s wx hs0).mono (fun e w' h => ⟨h.1, h.2.symm⟩)
  have HXB : Hid ((x.natAbs : Int) < 18446744073709551616 ^ 63) := hxb
  have hV := ((Below.refl w.heap.size w).alloc (Nat.le_refl _) (.cells #[.bool xn, .slice xa xl xc] 97)).alloc (by simp) (.cells #[.int .i64 0, .int .i64 0] 63)
  have c0 : ((w.alloc (.cells #[.bool xn, .slice xa xl xc] 97)).alloc (.cells #[.int .i64 0, .int .i64 0] 63)).cell? ⟨w.heap.size, 0, none⟩ = some (.bool xn) := by rw [World.cell?_alloc_lt _ _ _ (by simp)]; simp
  have c1 : ((w.alloc (.cells #[.bool xn, .slice xa xl xc] 97)).alloc (.cells #[.int .i64 0, .int .i64 0] 63)).cell? ⟨w.heap.size, 1, none⟩ = some (.slice xa xl xc) := by rw [World.cell?_alloc_lt _ _ _ (by simp)]; simp
  have d0 : ((w.alloc (.cells #[.bool xn, .slice xa xl xc] 97)).alloc (.cells #[.int .i64 0, .int .i64 0] 63)).cell? ⟨w.heap.size + 1, 0, none⟩ = some (.int .i64 0) := by
    rw [show w.heap.size + 1 = (w.alloc (.cells #[.bool xn, .slice xa xl xc] 97)).heap.size by simp, World.cell?_alloc_new]; rfl
  have d1 : ((w.alloc (.cells #[.bool xn, .slice xa xl xc] 97)).alloc (.cells #[.int .i64 0, .int .i64 0] 63)).cell? ⟨w.heap.size + 1, 1, none⟩ = some (.int .i64 0) := by
    rw [show w.heap.size + 1 = (w.alloc (.cells #[.bool xn, .slice xa xl xc] 97)).heap.size by simp, World.cell?_alloc_new]; rfl
  have f0 : ((w.alloc (.cells #[.bool xn, .slice xa xl xc] 97)).alloc (.cells #[.int .i64 0, .int .i64 0] 63)).frozen? ⟨w.heap.size + 1, 0, none⟩ = false := by
    rw [show w.heap.size + 1 = (w.alloc (.cells #[.bool xn, .slice xa xl xc] 97)).heap.size by simp]; exact World.frozen?_alloc_new _ _ _ _
  have f1 : ((w.alloc (.cells #[.bool xn, .slice xa xl xc] 97)).alloc (.cells #[.int .i64 0, .int .i64 0] 63)).frozen? ⟨w.heap.size + 1, 1, none⟩ = false := by
    rw [show w.heap.size + 1 = (w.alloc (.cells #[.bool xn, .slice xa xl xc] 97)).heap.size by simp]; exact World.frozen?_alloc_new _ _ _ _
  have hXV := hX.below hV
  clear hP hs0 hxb hX
  go_enter Tryz.func65, Tryz.ntmps65
  go_wp2_with fail
  generalize (w.alloc (.cells #[.bool xn, .slice xa xl xc] 97)).alloc (.cells #[.int .i64 0, .int .i64 0] 63) = V at *
  have hgV : w.heap.size < V.heap.size := World.block_lt_of_cell? _ _ c0
  have hRV : w.heap.size + 1 < V.heap.size := World.block_lt_of_cell? _ _ d0
  obtain ⟨g, hge⟩ : ∃ g, g = w.heap.size := ⟨_, rfl⟩
  rw [← hge] at c0 c1 d0 d1 f0 f1 hgV hRV
  rw [← hge]
  have HGe : Hid (g = w.heap.size) := hge
  clear hge
  have HRB : Hid (Below V.heap.size V V) := Below.refl _ _
  have HOp : Hid (∀ wx : World, Below V.heap.size V wx → Calls Tryz.prog 83 #[.int .i64 P] wx fun e w' => ∃ n a l c, e = .returned (.agg #[.bool n, .slice a l c]) ∧ Hid (WAt w' n a l c P ∧ Below V.heap.size V w') ∧ (w'.cell? ⟨g, 0, none⟩ = some (.bool xn) ∧ w'.cell? ⟨g, 1, none⟩ = some (.slice xa xl xc) ∧ g < w'.heap.size) ∧ (∀ b o, b < wx.heap.size → w'.cell? ⟨b, o, none⟩ = wx.cell? ⟨b, o, none⟩) ∧ (∀ b o, b < wx.heap.size → w'.frozen? ⟨b, o, none⟩ = wx.frozen? ⟨b, o, none⟩) ∧ (∀ b, b < wx.heap.size → b < w'.heap.size)) := by
    intro wx hbx
    refine (iof_any P wx hPr).mono ?_
    rintro e w' ⟨a', n', c', rfl, hn, hb⟩
    have hb' := hbx.trans (hb.mono hbx.size)
    exact ⟨_, _, _, _, rfl, ⟨⟨_, hn, IsW.of hPr⟩, hb'⟩, ⟨bkeep hb' c0 rfl, bkeep hb' c1 rfl, Nat.lt_of_lt_of_le hgV hb'.size⟩, bfactsD hb⟩
  have HFl : Hid (∀ (wx : World) yb ya yn yc, WAt wx yb ya yn yc P → Below V.heap.size V wx → Calls Tryz.prog 99 #[.agg #[.bool xn, .slice xa xl xc], .agg #[.bool yb, .slice ya yn yc]] wx fun e w' => ∃ q qa qn qc r ra rn rc, e = .returned (.tuple #[.agg #[.bool q, .slice qa qn qc], .agg #[.bool r, .slice ra rn rc], .int .i64 0]) ∧ Hid ((∃ qs, Nums w' qa qn qc qs ∧ IsW q qs (x / P)) ∧ (∃ rs, Nums w' ra rn rc rs ∧ IsW r rs (x % P)) ∧ Below V.heap.size V w') ∧ (w'.cell? ⟨g, 0, none⟩ = some (.bool xn) ∧ w'.cell? ⟨g, 1, none⟩ = some (.slice xa xl xc) ∧ g < w'.heap.size) ∧ (∀ b o, b < wx.heap.size → w'.cell? ⟨b, o, none⟩ = wx.cell? ⟨b, o, none⟩) ∧ (∀ b o, b < wx.heap.size → w'.frozen? ⟨b, o, none⟩ = wx.frozen? ⟨b, o, none⟩) ∧ (∀ b, b < wx.heap.size → b < w'.heap.size)) := by
    rintro wx yb ya yn yc ⟨ys, hy, hyW⟩ hbx
    refine (ifloor_any xn yb _ _ _ _ _ _ _ _ wx (hXV.below hbx) hy).mono ?_
    rintro e w' ⟨q, qa, qn, qc, qs, r, ra, rn, rc, rs, err, rfl, ⟨hQ, hR⟩, hF, hb⟩
    obtain ⟨rfl, f1, f2⟩ := floor_isW hxW hyW (by omega) HXB.out hF
    have hb' := hbx.trans (hb.mono hbx.size)
    exact ⟨q, qa, qn, qc, r, ra, rn, rc, rfl, ⟨⟨qs, hQ, f1⟩, ⟨rs, hR, f2⟩, hb'⟩, ⟨bkeep hb' c0 rfl, bkeep hb' c1 rfl, Nat.lt_of_lt_of_le hgV hb'.size⟩, bfactsD hb⟩
  go_cut [6, 7] (fun p12 p13 wx => Two7 V (x / P) (x % P) p12 p13 wx)
  case first =>
    clear hXV hxW HXB hV hP1 hPr HGe HFe d0 d1 f0 f1 hRV
    have ne0 := World.new_ne V ⟨g, 0, none⟩ c0
    go_region_held3 (fun w' => w'.cell? ⟨g, 0, none⟩ = some (.bool xn) ∧ w'.cell? ⟨g, 1, none⟩ = some (.slice xa xl xc)) (first | go_keep | exact ⟨o0, o1⟩ | exact ⟨n0, n1⟩ | exact ⟨(put2_other (by omega) _ _).trans o0, (put2_other (by omega) _ _).trans o1⟩ | exact ⟨(put2_other (by omega) _ _).trans ((put2_other (by omega) _ _).trans o0), (put2_other (by omega) _ _).trans ((put2_other (by omega) _ _).trans o1)⟩)
      (first
      | (go_at_call 46; refine (HSt.out _).mono ?_; rintro e w2 ⟨rfl, rfl⟩)
      | (go_at_call 83; with_reducible refine Calls.mono (HOp.out _ ?_) ?_; (focus (repeat (first | exact HRB.out | refine bdrawD ?_ | refine bgrowD ?_ _))); rintro e w3 ⟨yb, ya, yn, yc, rfl, hY, ⟨n0, n1, n2⟩, hc3, hf3, hs3⟩; have ne3 := World.new_ne w3 ⟨g, 0, none⟩ n0; (try have k30 := hs3 (V.heap.size) (by first | omega | (simp; done) | (simp; omega))); (try have m300 := hc3 (V.heap.size) 0 (by first | omega | (simp; done) | (simp; omega))); (try have f300 := hf3 (V.heap.size) 0 (by first | omega | (simp; done) | (simp; omega))); (try have m301 := hc3 (V.heap.size) 1 (by first | omega | (simp; done) | (simp; omega))); (try have f301 := hf3 (V.heap.size) 1 (by first | omega | (simp; done) | (simp; omega))); (try have k31 := hs3 (V.heap.size + 1) (by first | omega | (simp; done) | (simp; omega))); (try have m310 := hc3 (V.heap.size + 1) 0 (by first | omega | (simp; done) | (simp; omega))); (try have f310 := hf3 (V.heap.size + 1) 0 (by first | omega | (simp; done) | (simp; omega))); (try have m311 := hc3 (V.heap.size + 1) 1 (by first | omega | (simp; done) | (simp; omega))); (try have f311 := hf3 (V.heap.size + 1) 1 (by first | omega | (simp; done) | (simp; omega))); clear hc3 hf3 hs3)
      | (go_at_call 99; with_reducible refine Calls.mono (HFl.out _ yb ya yn yc ?_ ?_) ?_; (focus (repeat (first | exact hY.out.1 | refine WAt.drew ?_ | refine WAt.grow ?_ _))); (focus (repeat (first | exact hY.out.2 | refine bdrawD ?_ | refine bgrowD ?_ _))); rintro e w4 ⟨q, qa, qn, qc, r, ra, rn, rc, rfl, hR, ⟨o0, o1, o2⟩, hc4, hf4, hs4⟩; have ne4 := World.new_ne w4 ⟨g, 0, none⟩ o0; (try have k40 := hs4 (V.heap.size) (by first | omega | (simp; done) | (simp; omega))); (try have m400 := hc4 (V.heap.size) 0 (by first | omega | (simp; done) | (simp; omega))); (try have f400 := hf4 (V.heap.size) 0 (by first | omega | (simp; done) | (simp; omega))); (try have m401 := hc4 (V.heap.size) 1 (by first | omega | (simp; done) | (simp; omega))); (try have f401 := hf4 (V.heap.size) 1 (by first | omega | (simp; done) | (simp; omega))); (try have k41 := hs4 (V.heap.size + 1) (by first | omega | (simp; done) | (simp; omega))); (try have m410 := hc4 (V.heap.size + 1) 0 (by first | omega | (simp; done) | (simp; omega))); (try have f410 := hf4 (V.heap.size + 1) 0 (by first | omega | (simp; done) | (simp; omega))); (try have m411 := hc4 (V.heap.size + 1) 1 (by first | omega | (simp; done) | (simp; omega))); (try have f411 := hf4 (V.heap.size + 1) 1 (by first | omega | (simp; done) | (simp; omega))); (try have k42 := hs4 (w3.heap.size) (by first | omega | (simp; done) | (simp; omega))); (try have m420 := hc4 (w3.heap.size) 0 (by first | omega | (simp; done) | (simp; omega))); (try have f420 := hf4 (w3.heap.size) 0 (by first | omega | (simp; done) | (simp; omega))); (try have m421 := hc4 (w3.heap.size) 1 (by first | omega | (simp; done) | (simp; omega))); (try have f421 := hf4 (w3.heap.size) 1 (by first | omega | (simp; done) | (simp; omega))); (try have k43 := hs4 (w3.heap.size + 1) (by first | omega | (simp; done) | (simp; omega))); (try have m430 := hc4 (w3.heap.size + 1) 0 (by first | omega | (simp; done) | (simp; omega))); (try have f430 := hf4 (w3.heap.size + 1) 0 (by first | omega | (simp; done) | (simp; omega))); (try have m431 := hc4 (w3.heap.size + 1) 1 (by first | omega | (simp; done) | (simp; omega))); (try have f431 := hf4 (w3.heap.size + 1) 1 (by first | omega | (simp; done) | (simp; omega))); clear hc4 hf4 hs4))
    all_goals
      have hz4 := hR.out.2.2.size
      have hz3 := hY.out.2.size
      clear HSt HOp HFl HRB
      go_wp2_with fail
      go_meet
      case rel =>
      obtain ⟨⟨qs, hQ, hqW⟩, ⟨rs, hRr, hrW⟩, hbM⟩ := hR.out
      first
        | with_reducible exact two_a hQ hqW hRr hrW hbM
        | with_reducible exact two_b hQ hqW hRr hrW hbM
        | (with_reducible refine two_c (p := false) (sa := none) (sn := 0) (sc := 0) hQ hqW hRr hrW hbM ?_ ?_ ?_ ?_ ?_
           · go_simp
           · go_simp
           · go_simp
           · go_simp
           · first | omega | (simp; done) | (simp; omega))
        | (with_reducible refine two_d (p := false) (sa := none) (sn := 0) (sc := 0) hQ hqW hRr hrW hbM ?_ ?_ ?_ ?_ ?_
           · go_simp
           · go_simp
           · go_simp
           · go_simp
           · first | omega | (simp; done) | (simp; omega))
        | (with_reducible refine two_e (p := false) (sa := none) (sn := 0) (sc := 0) (p' := false) (sa' := none) (sn' := 0) (sc' := 0) hQ hqW hRr hrW hbM ?_ ?_ ?_ ?_ ?_ ?_ ?_ ?_ ?_ ?_ ?_
           · go_simp
           · go_simp
           · go_simp
           · go_simp
           · first | omega | (simp; done) | (simp; omega)
           · go_simp
           · go_simp
           · go_simp
           · go_simp
           · first | omega | (simp; done) | (simp; omega)
           · first | omega | (simp; done) | (simp; omega))
  case rest =>
    obtain ⟨g1, g2, rfl, rfl, F1, F2, hbc⟩ := hcut
    have hBc := hV.trans (hbc.mono hV.size)
    replace d0 := bkeep hbc d0 rfl
    replace d1 := bkeep hbc d1 rfl
    replace f0 := ((bcell hbc).2 _ 0 hRV).trans f0
    replace f1 := ((bcell hbc).2 _ 1 hRV).trans f1
    have hRc : g + 1 < wc.heap.size := Nat.lt_of_lt_of_le hRV hbc.size
    clear HSt HOp HFl HRB hV hbc hXV hxW HXB hgV hRV hPr
    clear c0 c1
    obtain ⟨qp, qa, qn, qc, qs, ⟨c0, c1⟩, -, hQ, hq1, hq2⟩ := F1
    have hqW : IsW qp qs (x / P) := ⟨hQ.digs, hq1, hq2⟩
    have HS := (show Hid _ from ismall_any qp _ _ _ _ _ hQ)
    obtain ⟨s1, s2⟩ := hqW.small
    cases hfit : fitB (x / P) with
    | false =>
      rw [s1, hfit] at HS
      obtain ⟨z, hz⟩ : ∃ z, z = ismZ qp qs := ⟨_, rfl⟩
      rw [← hz] at HS
      have HF : Hid (Told2 f (x / P) (x % P) 0 0 12) := .inl ⟨12, by rw [HFe.out, hfit]; rfl, rfl, rfl, rfl⟩
      clear hz s1 s2 hQ hq1 hq2 hqW F2 hP1
      go_wp2_with fail
      refine Calls.mono HS.out ?_
      rintro e w8 ⟨rfl, hb8⟩
      have hB8 := hBc.trans (hb8.mono hBc.size)
      replace d0 := bkeep hb8 d0 rfl
      replace d1 := bkeep hb8 d1 rfl
      replace f0 := ((bcell hb8).2 _ 0 hRc).trans f0
      replace f1 := ((bcell hb8).2 _ 1 hRc).trans f1
      have hBB := (hB8.setCell (p := ⟨g + 1, 0, none⟩) (by rw [HGe.out]; exact Nat.le_succ _) (.int .i64 0)).setCell (p := ⟨g + 1, 1, none⟩) (by rw [HGe.out]; exact Nat.le_succ _) (.int .i64 0)
      clear HS hBc hb8 c0 c1 hRc hB8 HGe
      go_wp2_with fail
      exact bodyPost_ret (v := .tuple #[.agg #[.int .i64 0, .int .i64 0], .int .i64 12]) (by simp [results, Tryz.results65, go_sem, d0, d1]) rfl ⟨0, 0, 12, rfl, HF.out, hBB⟩
    | true =>
      rw [s1, hfit, s2 hfit] at HS
      have hP0 : 0 < P := by omega
      have hr0 := Int.emod_nonneg x (show P ≠ 0 by omega)
      have hr1 := Int.emod_lt_of_pos x hP0
      have hfr : fitB (x % P) = true := (fitB_iff _).2 ⟨by omega, by omega⟩
      clear s1 s2 hQ hq1 hq2 hqW
      obtain ⟨X, hX⟩ : ∃ X, X = x / P := ⟨_, rfl⟩
      obtain ⟨Y, hY⟩ : ∃ Y, Y = x % P := ⟨_, rfl⟩
      have HF : Hid (Told2 f (x / P) (x % P) X Y 0) := .inr ⟨by rw [HFe.out, hfit]; rfl, hX, hY, rfl⟩
      rw [← hX] at HS
      rw [← hY] at F2 hfr
      clear hX hY hr0 hr1 hP1 hP0
      go_wp2_with fail
      refine Calls.mono HS.out ?_
      rintro e w8 ⟨rfl, hb8⟩
      have hB8 := hBc.trans (hb8.mono hBc.size)
      replace F2 := F2.below hb8
      replace d0 := bkeep hb8 d0 rfl
      replace d1 := bkeep hb8 d1 rfl
      replace f0 := ((bcell hb8).2 _ 0 hRc).trans f0
      replace f1 := ((bcell hb8).2 _ 1 hRc).trans f1
      replace hRc : g + 1 < w8.heap.size := Nat.lt_of_lt_of_le hRc hb8.size
      clear HS hBc hb8 c0 c1
      obtain ⟨rp, ra, rn, rc, rs, ⟨e0, e1⟩, -, hRr, hr1, hr2⟩ := F2
      have hrW : IsW rp rs Y := ⟨hRr.digs, hr1, hr2⟩
      have HS2 := (show Hid _ from ismall_any rp _ _ _ _ _ hRr)
      rw [hrW.small.1, hfr, hrW.small.2 hfr] at HS2
      clear hrW hRr hr1 hr2 hfr
      go_wp2_with fail
      refine Calls.mono HS2.out ?_
      rintro e w9 ⟨rfl, hb9⟩
      have hB9 := hB8.trans (hb9.mono hB8.size)
      replace d0 := bkeep hb9 d0 rfl
      replace d1 := bkeep hb9 d1 rfl
      replace f0 := ((bcell hb9).2 _ 0 hRc).trans f0
      replace f1 := ((bcell hb9).2 _ 1 hRc).trans f1
      have hBB := (hB9.setCell (p := ⟨g + 1, 0, none⟩) (by rw [HGe.out]; exact Nat.le_succ _) (.int .i64 X)).setCell (p := ⟨g + 1, 1, none⟩) (by rw [HGe.out]; exact Nat.le_succ _) (.int .i64 Y)
      clear HS2 hB8 hb9 e0 e1 hRc hB9 HGe
      go_wp2_with fail
      exact bodyPost_ret (v := .tuple #[.agg #[.int .i64 X, .int .i64 Y], .int .i64 0]) (by simp [results, Tryz.results65, go_sem, d0, d1]) rfl ⟨X, Y, 0, rfl, HF.out, hBB⟩
end Go.Proofs.YtambpcgdaogojabGreat

namespace Go.Proofs.YtambpcgdaogojabGreat
open Go.RowKit

/-- The cells of three blocks of two cells that were made in a row; the last is not frozen. -/
theorem up_no {ns vs : List Int} {s : Int} (hm : modB ns = true) (hs : shB s = false) : upF ns s vs = some 1 := by
  unfold upF
  rw [hm, hs]
  rfl

set_option maxRecDepth 20000 in
set_option maxHeartbeats 6400000 in
theorem munpack_any (a ha b : Option Addr) (la ca hl hc lb cb : Nat) (ns hs vs : List Int) (s : Int) (w : World) (hN : Nums w a la ca ns) (hH : Nums w ha hl hc hs) (hV' : Nums w b lb cb vs) (hm : modB ns = true) (hI : IsN hs (hlf (nv ns))) :
    Calls Tryz.prog 32 #[.agg #[.slice a la ca, .slice ha hl hc], .agg #[.int .i64 s, .slice b lb cb]] w fun e w' => PairP7 (upF ns s vs) (upG ns s vs) (upH ns s vs) w e w' := by
  have hV := (((Below.refl w.heap.size w).alloc (Nat.le_refl _) (.cells #[.slice a la ca, .slice ha hl hc] 60)).alloc (by simp) (.cells #[.int .i64 s, .slice b lb cb] 79)).alloc (by simp; omega) (.cells #[.int .i64 0, .int .i64 0] 63)
  have kN := hN.below hV
  have kH := hH.below hV
  have kV := hV'.below hV
  obtain ⟨F, hF⟩ : ∃ F, F = upF ns s vs := ⟨_, rfl⟩
  obtain ⟨GG, hGG⟩ : ∃ GG, GG = upG ns s vs := ⟨_, rfl⟩
  obtain ⟨HH, hHH⟩ : ∃ HH, HH = upH ns s vs := ⟨_, rfl⟩
  rw [← hF, ← hGG, ← hHH]
  have HFe : Hid (F = upF ns s vs ∧ GG = upG ns s vs ∧ HH = upH ns s vs) := ⟨hF, hGG, hHH⟩
  clear hF hGG hHH hN hH hV'
  go_enter Tryz.func32, Tryz.ntmps32
  go_wp2_with fail
  refine (isshift_any s _).mono ?_
  rintro e w1 ⟨rfl, rfl⟩
  obtain ⟨⟨c0, c1⟩, ⟨d0, d1⟩, ⟨e0, e1⟩, f0, f1⟩ := held222 (w := w) (x := .slice a la ca) (y := .slice ha hl hc) (x' := .int .i64 s) (y' := .slice b lb cb) (x'' := .int .i64 0) (y'' := .int .i64 0) (t := 60) (t' := 79) (t'' := 63) (Below.refl _ _)
  generalize ((w.alloc (.cells #[.slice a la ca, .slice ha hl hc] 60)).alloc (.cells #[.int .i64 s, .slice b lb cb] 79)).alloc (.cells #[.int .i64 0, .int .i64 0] 63) = V at *
  have hRV : w.heap.size + 1 + 1 < V.heap.size := World.block_lt_of_cell? _ _ e0
  cases hsB : shB s with
  | false =>
    have HF : Hid (Told2 F GG HH 0 0 1) := .inl ⟨1, by rw [HFe.out.1]; exact up_no hm hsB, rfl, rfl, rfl⟩
    have hBB := (hV.setCell (p := ⟨w.heap.size + 1 + 1, 0, none⟩) (by show _ ≤ w.heap.size + 1 + 1; omega) (.int .i64 0)).setCell (p := ⟨w.heap.size + 1 + 1, 1, none⟩) (by show _ ≤ w.heap.size + 1 + 1; omega) (.int .i64 0)
    clear kN kH kV c0 c1 d0 d1 hV hRV hI HFe
    go_wp2_with fail
    exact bodyPost_ret (v := .tuple #[.agg #[.int .i64 0, .int .i64 0], .int .i64 1]) (by simp [results, Tryz.results32, go_sem, e0, e1]) rfl ⟨0, 0, 1, rfl, HF.out, hBB⟩
  | true =>
    have hs0 : 0 ≤ s ∧ s ≤ 62 := by have := (shB_iff s).1 hsB; omega
    have hnb : (nv ns : Int) < 18446744073709551616 ^ 8 := mod_bd kN.digs hm
    have HD := (show Hid _ from mdecode_any _ _ _ _ _ _ _ _ _ ns hs vs V kN kH kV hm hI)
    obtain ⟨x, hx⟩ : ∃ x, x = dcV (nv ns) (nv vs) := ⟨_, rfl⟩
    rw [← hx] at HD
    have HXe : Hid (x = dcV (nv ns) (nv vs)) := hx
    clear kN kH kV hI hx
    go_wp2_with fail
    refine Calls.mono HD.out ?_
    rintro e v ⟨xn, xa, xl, xc, xs, xe, rfl, hX, hT, hb2⟩
    have hBv := hV.trans (hb2.mono hV.size)
    replace d0 := bkeep hb2 d0 rfl
    replace e0 := bkeep hb2 e0 rfl
    replace e1 := bkeep hb2 e1 rfl
    replace f0 := ((bcell hb2).2 _ 0 hRV).trans f0
    replace f1 := ((bcell hb2).2 _ 1 hRV).trans f1
    have hRv : w.heap.size + 1 + 1 < v.heap.size := Nat.lt_of_lt_of_le hRV hb2.size
    clear HD hV hb2 hRV c0 c1 d1
    have hA := hBv.alloc hBv.size (.cells #[.bool xn, .slice xa xl xc] 97)
    have hbA := (Below.refl v.heap.size v).alloc (Nat.le_refl _) (.cells #[.bool xn, .slice xa xl xc] 97)
    have x0 : (v.alloc (.cells #[.bool xn, .slice xa xl xc] 97)).cell? ⟨v.heap.size, 0, none⟩ = some (.bool xn) := by simp
    have x1 : (v.alloc (.cells #[.bool xn, .slice xa xl xc] 97)).cell? ⟨v.heap.size, 1, none⟩ = some (.slice xa xl xc) := by simp
    replace d0 := bkeep hbA d0 rfl
    replace e0 := bkeep hbA e0 rfl
    replace e1 := bkeep hbA e1 rfl
    replace f0 := ((bcell hbA).2 _ 0 hRv).trans f0
    replace f1 := ((bcell hbA).2 _ 1 hRv).trans f1
    replace hX := hX.below hbA
    have hRA : w.heap.size + 1 + 1 < (v.alloc (.cells #[.bool xn, .slice xa xl xc] 97)).heap.size := Nat.lt_of_lt_of_le hRv hbA.size
    clear hBv hbA hRv
    rcases hT with ⟨e, hf, rfl, rfl, rfl⟩ | ⟨hf, hxW, rfl⟩
    · have hne : (xe != 0) = true := by have := dcF_ne hf; simpa using this
      have HF : Hid (Told2 F GG HH 0 0 xe) := .inl ⟨xe, by rw [HFe.out.1]; exact up_bad hm hsB hf, rfl, rfl, rfl⟩
      have hBB := (hA.setCell (p := ⟨w.heap.size + 1 + 1, 0, none⟩) (by show _ ≤ w.heap.size + 1 + 1; omega) (.int .i64 0)).setCell (p := ⟨w.heap.size + 1 + 1, 1, none⟩) (by show _ ≤ w.heap.size + 1 + 1; omega) (.int .i64 0)
      clear hf hX HFe HXe hnb hA hRA d0 x0 x1
      go_wp2_with fail
      exact bodyPost_ret (v := .tuple #[.agg #[.int .i64 0, .int .i64 0], .int .i64 xe]) (by simp [results, Tryz.results32, go_sem, e0, e1]) rfl ⟨0, 0, xe, rfl, HF.out, hBB⟩
    · have hup := up_good hm hsB hf
      have hvl : nv vs < nv ns := by
        unfold dcF at hf
        rw [hm] at hf
        by_cases c : nv vs < nv ns
        · exact c
        · rw [decide_eq_false c, Bool.and_false] at hf; cases hf
      have hxb : (x.natAbs : Int) < 18446744073709551616 ^ 63 := by
        have h1 : (18446744073709551616 : Int) ^ 8 < 18446744073709551616 ^ 63 := by decide
        rw [HXe.out]
        unfold dcV
        split <;> omega
      have HP := (show Hid _ from fparted_any xn xa xl xc xs x s _ hs0 hX hxW hxb)
      have hG : upG ns s vs = x / 2 ^ s.toNat := by unfold upG; rw [HXe.out]
      have hHh : upH ns s vs = x % 2 ^ s.toNat := by unfold upH; rw [HXe.out]
      rw [hG] at hup
      rw [← hup, ← hG, ← hHh, ← HFe.out.1, ← HFe.out.2.1, ← HFe.out.2.2] at HP
      clear hup hvl hxb hG hHh hf hX hxW HFe HXe hnb hs0
      go_wp2_with fail
      refine Calls.mono HP.out ?_
      rintro e w5 ⟨y, z, err, rfl, hT, hb5⟩
      have HT : Hid (Told2 F GG HH y z err) := hT
      have hB5 := hA.trans (hb5.mono hA.size)
      replace e0 := bkeep hb5 e0 rfl
      replace e1 := bkeep hb5 e1 rfl
      replace f0 := ((bcell hb5).2 _ 0 hRA).trans f0
      replace f1 := ((bcell hb5).2 _ 1 hRA).trans f1
      have hBB := (hB5.setCell (p := ⟨w.heap.size + 1 + 1, 0, none⟩) (by show _ ≤ w.heap.size + 1 + 1; omega) (.int .i64 y)).setCell (p := ⟨w.heap.size + 1 + 1, 1, none⟩) (by show _ ≤ w.heap.size + 1 + 1; omega) (.int .i64 z)
      clear HP hT hA hb5 hB5 hRA d0 x0 x1
      go_wp2_with fail
      exact bodyPost_ret (v := .tuple #[.agg #[.int .i64 y, .int .i64 z], .int .i64 err]) (by simp [results, Tryz.results32, go_sem, e0, e1]) rfl ⟨y, z, err, rfl, HT.out, hBB⟩

set_option maxRecDepth 20000 in
set_option maxHeartbeats 6400000 in
theorem askU_any (a b : Option Addr) (la ca lb cb : Nat) (ns vs : List Int) (s : Int) (w : World) (hN : Nums w a la ca ns) (hV' : Nums w b lb cb vs) :
    Calls Tryz.prog 31 #[.slice a la ca, .func (.func 32) #[] #[], .agg #[.int .i64 s, .slice b lb cb]] w fun e w' => PairP7 (upF ns s vs) (upG ns s vs) (upH ns s vs) w e w' := by
  have hV := ((Below.refl w.heap.size w).alloc (Nat.le_refl _) (.cells #[.int .i64 s, .slice b lb cb] 79)).alloc (by simp) (.cells #[.int .i64 0, .int .i64 0] 63)
  have k := hN.below hV
  have k' := hV'.below hV
  have HM := (show Hid _ from ismod_any _ _ _ _ _ k)
  obtain ⟨F, hF⟩ : ∃ F, F = upF ns s vs := ⟨_, rfl⟩
  obtain ⟨GG, hGG⟩ : ∃ GG, GG = upG ns s vs := ⟨_, rfl⟩
  obtain ⟨HH, hHH⟩ : ∃ HH, HH = upH ns s vs := ⟨_, rfl⟩
  rw [← hF, ← hGG, ← hHH]
  have HFe : Hid (F = upF ns s vs ∧ GG = upG ns s vs ∧ HH = upH ns s vs) := ⟨hF, hGG, hHH⟩
  have hE := Tryz.call32
  clear hF hGG hHH hN hV'
  go_enter Tryz.func31, Tryz.ntmps31
  go_wp2_with fail
  refine Calls.mono HM.out ?_
  rintro e w1 ⟨rfl, hb1⟩
  obtain ⟨⟨c0, c1⟩, ⟨d0, d1⟩, -, f0, f1⟩ := held22 hb1
  have hB1 := hV.trans (hb1.mono hV.size)
  replace k := k.below hb1
  replace k' := k'.below hb1
  have hR1 : w.heap.size + 1 < w1.heap.size := World.block_lt_of_cell? _ _ d0
  clear HM hV hb1
  cases hm : modB ns with
  | false =>
    have HF : Hid (Told2 F GG HH 0 0 1) := .inl ⟨1, by rw [HFe.out.1]; unfold upF; rw [hm]; rfl, rfl, rfl, rfl⟩
    have hA := hB1.alloc hB1.size (.cells #[.int .i64 0, .int .i64 0] 63)
    have hbA := (Below.refl w1.heap.size w1).alloc (Nat.le_refl _) (.cells #[.int .i64 0, .int .i64 0] 63)
    have e0 := bkeep hbA d0 rfl
    have e1 := bkeep hbA d1 rfl
    have e2 := ((bcell hbA).2 _ 0 hR1).trans f0
    have e3 := ((bcell hbA).2 _ 1 hR1).trans f1
    have hBB := (hA.setCell (p := ⟨w.heap.size + 1, 0, none⟩) (Nat.le_succ _) (.int .i64 0)).setCell (p := ⟨w.heap.size + 1, 1, none⟩) (Nat.le_succ _) (.int .i64 0)
    clear k k' hE hB1 hA hbA hR1 HFe c0 c1
    go_wp2_with fail
    exact bodyPost_ret (v := .tuple #[.agg #[.int .i64 0, .int .i64 0], .int .i64 1]) (by simp [results, Tryz.results31, go_sem, e0, e1]) rfl ⟨0, 0, 1, rfl, HF.out, hBB⟩
  | true =>
    obtain ⟨rn, n8, n3⟩ := (modB_iff ns).1 hm
    have hn := IsN.self k.digs rn
    have HMo : Hid (∀ wx, Below w1.heap.size w1 wx → Calls Tryz.prog 40 #[.slice a la ca] wx fun e w' => ∃ ha hl hc, e = .returned (.agg #[.slice a la ca, .slice ha hl hc]) ∧ Hid (∃ hs, Nums w' ha hl hc hs ∧ IsN hs (hlf (nv ns)) ∧ Below w1.heap.size w1 w') ∧ w'.cell? ⟨w.heap.size, 0, none⟩ = some (.int .i64 s) ∧ w'.cell? ⟨w.heap.size, 1, none⟩ = some (.slice b lb cb)) := by
      intro wx hbx
      refine (modof_any _ _ _ _ _ wx (k.below hbx) hn (by omega)).mono ?_
      rintro e w' ⟨ha, hl, hc, hs, rfl, hN, hI, hb⟩
      have hb' := hbx.trans (hb.mono hbx.size)
      exact ⟨ha, hl, hc, rfl, ⟨hs, hN, hI, hb'⟩, bkeep hb' c0 rfl, bkeep hb' c1 rfl⟩
    have HUn : Hid (∀ wx ha hl hc, (∃ hs, Nums wx ha hl hc hs ∧ IsN hs (hlf (nv ns)) ∧ Below w1.heap.size w1 wx) → Calls Tryz.prog 32 #[.agg #[.slice a la ca, .slice ha hl hc], .agg #[.int .i64 s, .slice b lb cb]] wx fun e w' => ∃ x y err, e = .returned (.tuple #[.agg #[.int .i64 x, .int .i64 y], .int .i64 err]) ∧ Hid (Told2 F GG HH x y err ∧ Below w.heap.size w w') ∧ (w'.cell? ⟨w.heap.size + 1, 0, none⟩ = some (.int .i64 0) ∧ w'.cell? ⟨w.heap.size + 1, 1, none⟩ = some (.int .i64 0)) ∧ w'.frozen? ⟨w.heap.size + 1, 0, none⟩ = false ∧ w'.frozen? ⟨w.heap.size + 1, 1, none⟩ = false) := by
      rintro wx ha hl hc ⟨hs, hN, hI, hbx⟩
      refine (munpack_any _ _ _ _ _ _ _ _ _ ns hs vs s wx (k.below hbx) hN (k'.below hbx) hm hI).mono ?_
      rintro e w' ⟨x, y, err, rfl, hT, hb⟩
      rw [← HFe.out.1, ← HFe.out.2.1, ← HFe.out.2.2] at hT
      have hb' := hbx.trans (hb.mono hbx.size)
      exact ⟨x, y, err, rfl, ⟨hT, hB1.trans (hb'.mono hB1.size)⟩, ⟨bkeep hb' d0 rfl, bkeep hb' d1 rfl⟩, ((bcell hb').2 _ _ hR1).trans f0, ((bcell hb').2 _ _ hR1).trans f1⟩
    clear k k' hn hB1 hR1 HFe
    go_wp2_with fail
    go_region_with (first
      | (go_at_call 40; refine (HMo.out _ ?_).mono ?_; (exact ⟨rfl, rfl, rfl, Nat.le_refl _, fun _ _ => rfl⟩); rintro e w3 ⟨ha, hl, hc, rfl, hH, k0, k1⟩)
      | (go_at_call 32; refine (HUn.out _ _ _ _ ?_).mono ?_; (obtain ⟨hs, g1, g2, g3⟩ := hH.out; exact ⟨hs, g1.alike (fun _ => rfl), g2, g3.os, g3.tape, g3.output, g3.size, g3.block⟩); rintro e w4 ⟨x, y, err, rfl, hR, ⟨q0, q1⟩, q2, q3⟩))
    all_goals
      clear HMo HUn hH c0 c1 d0 d1 f0 f1
      go_wp2_with fail
      obtain ⟨g2, g3⟩ := hR.out
      have g5 := (g3.setCell (p := ⟨w.heap.size + 1, 0, none⟩) (Nat.le_succ _) (.int .i64 x)).setCell (p := ⟨w.heap.size + 1, 1, none⟩) (Nat.le_succ _) (.int .i64 y)
      exact bodyPost_ret (v := .tuple #[.agg #[.int .i64 x, .int .i64 y], .int .i64 err]) (by simp [results, Tryz.results31, go_sem, q0, q1]) rfl ⟨x, y, err, rfl, g2, g5.os, g5.tape, g5.output, g5.size, g5.block⟩

set_option maxRecDepth 20000 in
set_option maxHeartbeats 1600000 in
theorem up_ok7 : UpOk := by
  intro a b la ca lb cb ns vs s w hN hV' _
  have HB := (show Hid _ from askU_any _ _ _ _ _ _ _ _ s w hN hV')
  obtain ⟨F, hF⟩ : ∃ F, F = upF ns s vs := ⟨_, rfl⟩
  obtain ⟨GG, hGG⟩ : ∃ GG, GG = upG ns s vs := ⟨_, rfl⟩
  obtain ⟨HH, hHH⟩ : ∃ HH, HH = upH ns s vs := ⟨_, rfl⟩
  rw [← hF, ← hGG, ← hHH] at HB
  rw [← hF, ← hGG, ← hHH]
  clear hN hV' hF hGG hHH
  go_enter Tryz.func11, Tryz.ntmps11
  go_wp2_with fail
  refine Calls.mono HB.out ?_
  rintro e w2 ⟨x, y, err, rfl, hT, hb2⟩
  have HT : Hid (Told2 F GG HH x y err) := hT
  have hA := hb2.alloc hb2.size (.cells #[.int .i64 x, .int .i64 y] 63)
  clear HB hT hb2
  go_wp2_with fail
  go_region_with (fail)
  all_goals
    go_wp2_with fail
    go_ret3
    exact ⟨x, y, err, rfl, HT.out, hA.os, hA.tape, hA.output, hA.size, hA.block⟩
end Go.Proofs.YtambpcgdaogojabGreat
